import PyProof.Rows.All
import KE.KRevIter
import PyProof.FactsAll.range_2
import Wide.All
import OpenK.AllK
import Wide.FinOn
import PyProof.EqAt
import PyProof.EqKinds
import PyProof.NeKinds
import PyProof.TupleCall
import PyProof.CompFree
import PyProof.CompMap
import PyProof.ReprRoads
import PyProof.CallFns
import PyProof.ReprBulk
import PyProof.CompUse
import KE.KRevSl
import PyProof.Rows.SetFrom
import PyProof.AttrMissSeq
import KE.KDictOf
import PyProof.DictUpdate
import PyProof.ListRange
import PyProof.Rows.SumAny
import PyProof.Rows.SortRev
import PyProof.Rows.CallKwBuiltin
import PyProof.ListMulAny
import PyProof.TupleOps
import PyProof.ZipIter
import PyProof.Draws
import PyProof.TupleIter
import PyProof.EnumMake
import PyProof.DictCompW
import PyProof.DictItems
import PyProof.DictItemsLoops
import PyProof.ExcAttrAll.ValueError
import KE.KTryMore
import KE.KLam
import KE.KTupSum
import KE.KMinKey
import PyProof.FactsAll.tuple_0
import PyProof.FactsAll.tuple_2
import PyProof.FactsAll.tuple_3
import KE.KSortTup
import PyProof.DictValues
import PyProof.DictWalks
import PyProof.SumWalkG
import PyProof.CollectWalk
import PyProof.FactsAll.dict_values
import KE.KDictList
import KE.KItemsList
import PyProof.TupleKey
import PyProof.DictDisplay
import PyProof.DictTable
import PyProof.ReprDict
import PyProof.ReprNest
import PyProof.ReprReads
import PySem.Challenge.RW_emptierbox_k24_whole_more_drawn_are_no_f
set_option Elab.async false
set_option linter.all false
set_option maxRecDepth 100000
set_option maxHeartbeats 4000000
namespace MA
noncomputable def gI (a b : Int) : Int := (Int.gcd a b : Int)
theorem gI_nonneg (a b : Int) : 0 ≤ gI a b := Int.natCast_nonneg _
theorem gI_abs (a b : Int) : gI (if a < 0 then -a else a) (if b < 0 then -b else b) = gI a b := by
  unfold gI Int.gcd
  congr 2 <;> (split <;> omega)
theorem gI_step {a b : Int} (ha : 0 ≤ a) : gI b (a % b) = gI a b := by
  unfold gI
  congr 1
  rw [Int.gcd_comm a b]
  unfold Int.gcd
  have e : (a % b).natAbs = a.natAbs % b.natAbs := by
    rw [Int.natAbs_emod_of_nonneg ha]
  rw [e, Nat.gcd_comm b.natAbs (a.natAbs % b.natAbs), ← Nat.gcd_rec]
theorem gI_zero {a : Int} (ha : 0 ≤ a) : gI a 0 = a := by
  unfold gI
  rw [Int.gcd_zero_right]
  omega
theorem gI_pos_right {a b : Int} (hb : b ≠ 0) : 0 < gI a b := by
  have h : Int.gcd a b ≠ 0 := fun h => hb (Int.gcd_eq_zero_iff.mp h).2
  unfold gI; omega
theorem gI_pos_left {a b : Int} (hb : a ≠ 0) : 0 < gI a b := by
  have h : Int.gcd a b ≠ 0 := fun h => hb (Int.gcd_eq_zero_iff.mp h).1
  unfold gI; omega
theorem gI_dvd_left (a b : Int) : gI a b ∣ a := Int.gcd_dvd_left ..
theorem gI_dvd_right (a b : Int) : gI a b ∣ b := Int.gcd_dvd_right ..
theorem gI_comm (a b : Int) : gI a b = gI b a := by unfold gI; rw [Int.gcd_comm]
theorem share_pos {t b : Int} (hb : 0 < b) : t / gI t b = (Rat.divInt t b).num ∧ b / gI t b = ((Rat.divInt t b).den : Int) := by
  rw [Rat.num_divInt, Rat.den_divInt, if_neg (by omega), Int.sign_eq_one_of_pos hb, Int.one_mul, Int.gcd_comm b t]
  refine ⟨rfl, ?_⟩
  unfold gI
  rw [Int.natCast_ediv]
  congr 1
  omega
theorem plus_ok (q r : Rat) (c top rest : Int) (hc : c = gI q.den r.den) (ht : top = q.num * ((r.den : Int) / c) + r.num * ((q.den : Int) / c)) (hr : rest = gI top c) :
    top / rest = (q + r).num ∧ ((q.den : Int) / c) * ((r.den : Int) / rest) = ((q + r).den : Int) := by
  have hd : 0 < q.den := Nat.pos_of_ne_zero q.den_nz
  have he : 0 < r.den := Nat.pos_of_ne_zero r.den_nz
  have cg : c = ((q.den.gcd r.den : Nat) : Int) := by rw [hc]; rfl
  have rg : rest = ((top.natAbs.gcd (q.den.gcd r.den) : Nat) : Int) := by
    rw [hr, cg]; rfl
  have tt : top = q.num * ((r.den / q.den.gcd r.den : Nat) : Int) + r.num * ((q.den / q.den.gcd r.den : Nat) : Int) := by
    rw [ht, cg, Int.natCast_ediv, Int.natCast_ediv]
  have key : (q + r).num = top / ((top.natAbs.gcd (q.den.gcd r.den) : Nat) : Int) ∧ (q + r).den = (q.den / q.den.gcd r.den) * r.den / top.natAbs.gcd (q.den.gcd r.den) := by
    rw [tt]
    have e : (q + r) = Rat.add q r := rfl
    rw [e]
    delta Rat.add
    dsimp only
    split
    · rename_i h
      rw [h]
      simp
    · simp only [Rat.maybeNormalize_eq, Int.divExact_eq_ediv, and_self]
  rw [key.1, key.2, rg]
  refine ⟨rfl, ?_⟩
  have d1 : top.natAbs.gcd (q.den.gcd r.den) ∣ r.den := Nat.dvd_trans (Nat.gcd_dvd_right ..) (Nat.gcd_dvd_right ..)
  rw [Nat.mul_div_assoc _ d1, Int.natCast_mul, Int.natCast_ediv, Int.natCast_ediv, cg]
theorem times_ok (q r : Rat) : Rat.divInt (q.num * r.num) (q.den * r.den) = q * r := by
  rw [Rat.mul_def', ← Int.natCast_mul, Rat.divInt_ofNat]
theorem den_pos (q : Rat) : (0 : Int) < q.den := by have := Nat.pos_of_ne_zero q.den_nz; omega
theorem timesX_ok (q r : Rat) : q.num / gI q.num r.den * (r.num / gI r.num q.den) = (q * r).num ∧ (q.den : Int) / gI r.num q.den * ((r.den : Int) / gI q.num r.den) = ((q * r).den : Int) := by
  have e : (q * r) = Rat.mul q r := rfl
  have e1 : gI q.num r.den = ((q.num.natAbs.gcd r.den : Nat) : Int) := rfl
  have e2 : gI r.num q.den = ((r.num.natAbs.gcd q.den : Nat) : Int) := rfl
  rw [e, e1, e2]
  delta Rat.mul
  dsimp only
  simp only [Int.divExact_eq_ediv, Nat.divExact_eq_div, Int.natCast_mul, Int.natCast_ediv, and_self]
end MA
set_option Elab.async false
set_option linter.all false
set_option maxRecDepth 100000
set_option maxHeartbeats 4000000
namespace L2
open PySem PySem.Spec PyProof.Rows
noncomputable abbrev Key := Sum Int Str
noncomputable def keyIs : Key → Value → Bool
  | .inl k, v => Value.isInt k v
  | .inr x, v => Value.isStrOf x v
noncomputable def keyH (w : World) : Key → Int
  | .inl k => hashInt k
  | .inr x => hashStr w x
theorem keyIs_shape : ∀ {k : Key} {v : Value}, keyIs k v = true → (∃ i t, k = Sum.inl i ∧ v = Value.int i t) ∨ (∃ x t, k = Sum.inr x ∧ v = Value.str x t)
  | .inl i, v, h => by
    obtain ⟨t, e⟩ := Value.isInt_shape (k := i) (v := v) h
    exact .inl ⟨i, t, rfl, e⟩
  | .inr x, v, h => by
    obtain ⟨t, e⟩ := Value.isStrOf_shape (x := x) (v := v) h
    exact .inr ⟨x, t, rfl, e⟩
theorem keyIs_int (i : Int) (t : Tok) : keyIs (.inl i) (.int i t) = true := by simp [keyIs, Value.isInt]
theorem keyIs_str (x : Str) (t : Tok) : keyIs (.inr x) (.str x t) = true := by simp [keyIs, Value.isStrOf]
theorem key_ll (a b : Int) : decide ((Sum.inl a : Key) = Sum.inl b) = (a == b) := by
  by_cases e : a = b
  · subst e; simp
  · have h : ¬ (Sum.inl a : Key) = Sum.inl b := fun q => e (Sum.inl.inj q)
    rw [decide_eq_false h]
    exact (beq_eq_false_iff_ne.mpr e).symm
theorem key_rr (a b : Str) : decide ((Sum.inr a : Key) = Sum.inr b) = decide (a = b) := by
  by_cases e : a = b
  · subst e; simp
  · have h : ¬ (Sum.inr a : Key) = Sum.inr b := fun q => e (Sum.inr.inj q)
    rw [decide_eq_false h, decide_eq_false e]
theorem key_lr (a : Int) (b : Str) : decide ((Sum.inl a : Key) = Sum.inr b) = false := decide_eq_false (fun q => nomatch q)
theorem key_rl (a : Str) (b : Int) : decide ((Sum.inr a : Key) = Sum.inl b) = false := decide_eq_false (fun q => nomatch q)
noncomputable def mixKind (prog : Program) (w : World) : PySem.KeyKind prog w Key where
  is := keyIs
  hash := keyH w
  inj := fun v a b ha hb => by
    rcases keyIs_shape ha with ⟨i, t, rfl, rfl⟩ | ⟨x, t, rfl, rfl⟩
    · rcases keyIs_shape hb with ⟨j, u, rfl, e⟩ | ⟨y, u, rfl, e⟩
      · injection e with e1 _; rw [e1]
      · exact nomatch e
    · rcases keyIs_shape hb with ⟨j, u, rfl, e⟩ | ⟨y, u, rfl, e⟩
      · exact nomatch e
      · injection e with e1 _; rw [e1]
  byValue := fun k v h => by
    rcases keyIs_shape h with ⟨i, t, rfl, rfl⟩ | ⟨x, t, rfl, rfl⟩ <;> rfl
  pyHash := fun hv h => by
    rcases keyIs_shape hv with ⟨i, t, rfl, rfl⟩ | ⟨x, t, rfl, rfl⟩
    · exact wpAny_pyHash_int h
    · exact wpAny_pyHash_str h
  eqBool := fun hu hv h => by
    rcases keyIs_shape hu with ⟨i, t, rfl, rfl⟩ | ⟨x, t, rfl, rfl⟩
    · rcases keyIs_shape hv with ⟨j, u, rfl, rfl⟩ | ⟨y, u, rfl, rfl⟩
      · rw [key_ll] at h; exact wpAny_eqBool_int h
      · rw [key_lr] at h; exact SeqAt.EqAt.int_str i t y u _ _ _ _ h
    · rcases keyIs_shape hv with ⟨j, u, rfl, rfl⟩ | ⟨y, u, rfl, rfl⟩
      · rw [key_rl] at h; exact SeqAt.EqAt.str_int x t j u _ _ _ _ h
      · rw [key_rr] at h; exact wpAny_eqBool_str h
  «strs» := fun k x t v h => by
    rcases keyIs_shape h with ⟨i, u, rfl, e⟩ | ⟨y, u, rfl, e⟩
    · exact nomatch e
    · injection e with e1 _
      subst e1
      cases v <;> rfl
theorem mixKind_int (prog : Program) (w : World) (i : Int) (t : Tok) : (mixKind prog w).is (.inl i) (.int i t) = true := keyIs_int i t
theorem mixKind_str (prog : Program) (w : World) (x : Str) (t : Tok) : (mixKind prog w).is (.inr x) (.str x t) = true := keyIs_str x t
end L2
namespace L2
open PySem PySem.Spec PyProof.Rows
inductive V where
  | non | bl (b : Bool) | int (i : Int) | str (x : Str) | byt (b : Array UInt8) | flt (b : UInt64) | ref (a : Addr) | ty (n : String)
  deriving DecidableEq
noncomputable def RelV : V → Value → Prop
  | .non, u => u = Value.none
  | .bl b, u => u = Value.bool b
  | .int i, u => ∃ t, u = Value.int i t
  | .str x, u => ∃ t, u = Value.str x t
  | .byt b, u => ∃ t, u = Value.bytes b t
  | .flt b, u => ∃ t, u = Value.float b t
  | .ref a, u => u = Value.ref a
  | .ty n, u => u = Value.type n
noncomputable abbrev Vals : List V → List Value → Prop := Paired RelV
theorem Vals.length {xs : List V} {us : List Value} (r : Vals xs us) : xs.length = us.length := Paired.length r
theorem Vals.get : ∀ {xs : List V} {us : List Value} {i : Nat} {x : V}, Vals xs us → xs[i]? = some x → ∃ u, us[i]? = some u ∧ RelV x u
  | _, _, _, _, .nil, e => by simp at e
  | _, _, 0, _, .cons r _, e => by simp at e; subst e; exact ⟨_, rfl, r⟩
  | _, _, i + 1, x, .cons _ t, e => by
    obtain ⟨u, h1, h2⟩ := Vals.get (i := i) (x := x) t (by simpa using e)
    exact ⟨u, by simpa using h1, h2⟩
theorem Vals.set {x : V} {u : Value} (r : RelV x u) : ∀ {xs : List V} {us : List Value} (i : Nat), Vals xs us → Vals (xs.set i x) (us.set i u)
  | _, _, _, .nil => .nil
  | _, _, 0, .cons _ t => .cons r t
  | _, _, i + 1, .cons q t => .cons q (Vals.set r i t)
theorem Vals.append : ∀ {xs ys : List V} {us ws : List Value}, Vals xs us → Vals ys ws → Vals (xs ++ ys) (us ++ ws)
  | _, _, _, _, .nil, s => s
  | _, _, _, _, .cons r t, s => .cons r (Vals.append t s)
theorem Vals.take : ∀ {xs : List V} {us : List Value} (n : Nat), Vals xs us → Vals (xs.take n) (us.take n)
  | _, _, 0, _ => .nil
  | _, _, _ + 1, .nil => .nil
  | _, _, n + 1, .cons r t => .cons r (Vals.take n t)
theorem Vals.drop : ∀ {xs : List V} {us : List Value} (n : Nat), Vals xs us → Vals (xs.drop n) (us.drop n)
  | _, _, 0, r => r
  | _, _, _ + 1, .nil => .nil
  | _, _, n + 1, .cons _ t => Vals.drop n t
noncomputable def RelO : Option V → Option Value → Prop
  | some v, some u => RelV v u
  | none, none => True
  | _, _ => False
noncomputable def KV {κ : Type} : List (κ × V) → List (κ × Value) → Prop := Paired fun (p : κ × V) (q : κ × Value) => p.1 = q.1 ∧ RelV p.2 q.2
noncomputable def kV : Key → V
  | .inl i => .int i
  | .inr x => .str x
inductive HO where
  | lst (xs : List V)
  | tup (xs : List V)
  | dK (kvs : List (Key × V)) | dT (kvs : List (List Key × V))
  | set (S : Int → Bool) (n : Nat)
  | ins (C dx : Addr) (fs : List (Str × V))
  | own (x : Addr)
  | xd (fs : List (Str × V))
  | met (f x : Addr)
  | rng (lo hi : Int)
  | frz (o : Obj) (u : HO)
  | tbl (ps : Array Value)
  | tab (q : Str)
  | ext (φ : Heap → Prop)
noncomputable abbrev Hp := Addr → Option HO
noncomputable def upd (H : Hp) (a : Addr) (o : HO) : Hp := fun b => if b = a then some o else H b
theorem upd_same {H : Hp} {a : Addr} {o : HO} : upd H a o a = some o := by unfold upd; rw [if_pos rfl]
theorem upd_ne {H : Hp} {a b : Addr} {o : HO} (h : b ≠ a) : upd H a o b = H b := by unfold upd; rw [if_neg h]
theorem upd_upd {H : Hp} {a : Addr} {o u : HO} : upd (upd H a o) a u = upd H a u := by
  funext b; unfold upd; split <;> rfl
theorem ne_of {H : Hp} {a b : Addr} {o u : HO} (h : H a = some o) (h' : H b = some u) (d : o ≠ u) : a ≠ b := by
  intro e; subst e; rw [h] at h'; exact d (Option.some.inj h')
theorem ne_of_none {H : Hp} {a b : Addr} {o : HO} (h : H a = some o) (h' : H b = none) : a ≠ b := by
  intro e; subst e; rw [h] at h'; cases h'
noncomputable def IsTupN (h : Heap) (a : Addr) (items : Array Value) : Prop := ∃ o, h.get? a = some o ∧ o.cls = .type "tuple" ∧ ∃ n, o.data = .seq items n ∧ o.dict = none
theorem IsTupN.tup {h : Heap} {a : Addr} {items : Array Value} (x : IsTupN h a items) : PyProof.Rows.IsTup h a items := let ⟨o, e, c, n, d, _⟩ := x; ⟨o, e, c, n, d⟩
theorem IsTupN.new (h : Heap) (items : Array Value) : IsTupN (h.push { cls := .type "tuple", data := .seq items }) h.objs.size items := ⟨_, Heap.get?_push_size _ rfl, rfl, _, rfl, rfl⟩
theorem IsTupN.lt {h : Heap} {a : Addr} {items : Array Value} (x : IsTupN h a items) : a < h.objs.size := let ⟨_, e, _⟩ := x; Heap.lt_size e
section
variable (P : Program) (w : World)
noncomputable def ObjOk (H : Hp) (h : Heap) (a : Addr) : HO → Prop
  | .lst xs => xs.length ≤ sizeLine ∧ ∃ (its : List Value) (n : Nat), Vals xs its ∧ h.get? a = some { cls := .type "list", data := .seq its.toArray n }
  | .tup xs => xs.length ≤ sizeLine ∧ ∃ its : List Value, Vals xs its ∧ IsTupN h a its.toArray
  | .dK kvs => kvs.length ≤ sizeLine ∧ (a == sysModules) = false ∧ ∃ vs, KV kvs vs ∧ h.DictOf (mixKind P w) a vs
  | .dT kvs => kvs.length ≤ sizeLine ∧ (a == sysModules) = false ∧ ∃ xs : List (List Key × Addr × Value),
      Paired (fun (p : List Key × V) (q : List Key × Addr × Value) => p.1 = q.1 ∧ H q.2.1 = some (.tup (p.1.map kV)) ∧ RelV p.2 q.2.2) kvs xs ∧
      ∃ o es ep, h.get? a = some o ∧ o.ExactDict ∧ o.data = .dict es ep ∧ es.toList = xs.map (entryOfKey (tupleKind (mixKind P w))) ∧ (xs.map (·.1)).Nodup
  | .set S n => h.SetOf (intKind P w) a S n
  | .ins C dx fs => H dx = some (.own a) ∧ fs.length ≤ 1000 ∧ dx ≠ a ∧ h.get? a = some (PySem.W.instObj C dx) ∧
      ∃ mA, h.Ns1 dx mA ∧ (∀ f, RelO (fs.lookup f) (mA f)) ∧ PySem.Within mA (fs.map (·.1))
  | .own _ => ∃ o, h.get? a = some o
  | .xd fs => ∃ mA, h.Ns1 a mA ∧ ∀ f, RelO (fs.lookup f) (mA f)
  | .rng lo hi => ∃ t u v, h.get? a = some { cls := .type "range", data := .fields #[.int lo t, .int hi u, .int 1 v] }
  | .frz o u => h.get? a = some o ∧ ObjOk H h a u
  | .tbl ps => h.get? a = some { cls := .none, data := .fields ps }
  | .tab q => ∃ ps : Array Value, h.get? a = some { cls := .none, data := .fields ps } ∧ TriplesOk ps.toList ∧ ∀ pos cv, codeAmong pos ps.toList = some cv →
      ∃ c oc vs t, cv = .ref c ∧ H c = some (.frz oc (.own 0)) ∧ oc.data = .fields vs ∧ vs[1]? = some (.str q t)
  | .met f x => h.get? a = some (PySem.W.methodObj (.ref f) (.ref x))
  | .ext φ => φ h ∧ (∃ o, h.get? a = some o) ∧ ∀ h1 h2 : Heap, φ h1 → (∀ o, h1.get? a = some o → h2.get? a = some o) → φ h2
noncomputable def HOk (H : Hp) (h : Heap) : Prop := ∀ a o, H a = some o → ObjOk P w H h a o
end
section
variable {P : Program} {w : World} {H H' : Hp} {h h' : Heap} {a : Addr} {o : HO}
theorem ObjOk.lt (x : ObjOk P w H h a o) : a < h.objs.size := by
  cases o with
  | lst xs => obtain ⟨_, _, _, _, e⟩ := x; exact Heap.lt_size e
  | tup xs => obtain ⟨_, _, _, p⟩ := x; exact p.lt
  | dK kvs => obtain ⟨_, _, _, _, o, _, _, e, _⟩ := x; exact Heap.lt_size e
  | dT kvs => obtain ⟨_, _, _, _, o, _, _, e, _⟩ := x; exact Heap.lt_size e
  | set S n => obtain ⟨o, _, _, _, e, _⟩ := x; exact Heap.lt_size e
  | ins C dx fs => obtain ⟨_, _, _, e, _⟩ := x; exact Heap.lt_size e
  | own y => obtain ⟨_, e⟩ := x; exact Heap.lt_size e
  | xd fs => obtain ⟨_, ⟨_, _, _, e, _⟩, _⟩ := x; exact Heap.lt_size e
  | rng lo hi => obtain ⟨_, _, _, e⟩ := x; exact Heap.lt_size e
  | frz ob u => obtain ⟨e, _⟩ := x; exact Heap.lt_size e
  | tbl ps => exact Heap.lt_size (show h.get? a = some _ from x)
  | tab q => obtain ⟨_, e, _⟩ := x; exact Heap.lt_size e
  | met f y => exact Heap.lt_size (show h.get? a = some _ from x)
  | ext φ => obtain ⟨_, ⟨_, e⟩, _⟩ := x; exact Heap.lt_size e
theorem Paired.mapP {α β : Type} {F G : α → β → Prop} : ∀ {l₁ : List α} {l₂ : List β}, Paired F l₁ l₂ → (∀ a b, F a b → G a b) → Paired G l₁ l₂
  | _, _, .nil, _ => .nil
  | _, _, .cons r t, f => .cons (f _ _ r) (Paired.mapP t f)
theorem ObjOk.stay (x : ObjOk P w H h a o) (k : ∀ b u, (b = a ∨ H b = some (.own a)) → h.get? b = some u → h'.get? b = some u)
    (ho : ∀ b, H b = some (.own a) → H' b = some (.own a)) (ht : ∀ b xs, H b = some (.tup xs) → H' b = some (.tup xs)) (hz : ∀ b ob, H b = some (.frz ob (.own 0)) → H' b = some (.frz ob (.own 0)) := by exact fun _ _ q => q) : ObjOk P w H' h' a o := by
  induction o with
  | lst xs => obtain ⟨z, its, n, r, e⟩ := x; exact ⟨z, its, n, r, k _ _ (.inl rfl) e⟩
  | tup xs => obtain ⟨z, its, r, ob, e, c⟩ := x; exact ⟨z, its, r, ob, k _ _ (.inl rfl) e, c⟩
  | dK kvs => obtain ⟨z, y, vs, r, ob, es, ep, e, c⟩ := x; exact ⟨z, y, vs, r, ob, es, ep, k _ _ (.inl rfl) e, c⟩
  | dT kvs =>
    obtain ⟨z, y, xs, r, ob, es, ep, e, c⟩ := x
    exact ⟨z, y, xs, Paired.mapP r fun p q z => ⟨z.1, ht _ _ z.2.1, z.2.2⟩, ob, es, ep, k _ _ (.inl rfl) e, c⟩
  | set S n => obtain ⟨ob, es, ep, t, e, c⟩ := x; exact ⟨ob, es, ep, t, k _ _ (.inl rfl) e, c⟩
  | ins C dx fs =>
    obtain ⟨d, z, ne, e, mA, ⟨od, es, ep, e2, c⟩, r⟩ := x
    exact ⟨ho _ d, z, ne, k _ _ (.inl rfl) e, mA, ⟨od, es, ep, k _ _ (.inr d) e2, c⟩, r⟩
  | own y => obtain ⟨ob, e⟩ := x; exact ⟨ob, k _ _ (.inl rfl) e⟩
  | xd fs => obtain ⟨mA, ⟨od, es, ep, e, c⟩, r⟩ := x; exact ⟨mA, ⟨od, es, ep, k _ _ (.inl rfl) e, c⟩, r⟩
  | rng lo hi => obtain ⟨t, u, v, e⟩ := x; exact ⟨t, u, v, k _ _ (.inl rfl) e⟩
  | frz ob u ih => obtain ⟨e, q⟩ := x; exact ⟨k _ _ (.inl rfl) e, ih q⟩
  | tab q =>
    obtain ⟨ps, e, tr, cs⟩ := x
    refine ⟨ps, k a _ (.inl rfl) e, tr, fun pos cv hc => ?_⟩
    obtain ⟨c, oc, vs, t, h1, h2, h3⟩ := cs pos cv hc
    exact ⟨c, oc, vs, t, h1, hz c oc h2, h3⟩
  | tbl ps =>
    have e : h.get? a = some { cls := .none, data := .fields ps } := x
    show h'.get? a = some { cls := .none, data := .fields ps }
    exact k a _ (.inl rfl) e
  | met f y =>
    have e : h.get? a = some (PySem.W.methodObj (.ref f) (.ref y)) := x
    show h'.get? a = some (PySem.W.methodObj (.ref f) (.ref y))
    exact k a _ (.inl rfl) e
  | ext φ => obtain ⟨p, ⟨o, e⟩, st⟩ := x; exact ⟨st _ _ p fun o q => k _ _ (.inl rfl) q, ⟨o, k _ _ (.inl rfl) e⟩, st⟩
theorem HOk.lt (x : HOk P w H h) (e : H a = some o) : a < h.objs.size := (x a o e).lt
theorem HOk.fresh (x : HOk P w H h) (e : h.objs.size ≤ a) : H a = none := by
  cases q : H a with
  | none => rfl
  | some u => exact absurd (Nat.lt_of_lt_of_le (x.lt q) e) (Nat.lt_irrefl _)
theorem HOk.kept (x : HOk P w H h) (k : ∀ b u, h.get? b = some u → h'.get? b = some u) : HOk P w H h' := fun a o e =>
  (x a o e).stay (fun b u _ q => k b u q) (fun _ q => q) fun _ _ q => q
theorem HOk.laid (x : HOk P w H h) (k : ∀ b u, h.get? b = some u → h'.get? b = some u) (hp : h.objs.size ≤ a) (new : ObjOk P w (upd H a o) h' a o) : HOk P w (upd H a o) h' := fun b u e => by
  have hn := x.fresh hp
  by_cases hb : b = a
  · subst hb; rw [upd_same] at e; cases e; exact new
  · rw [upd_ne hb] at e
    exact (x b u e).stay (fun c v _ q => k c v q) (fun c q => by rw [upd_ne (ne_of_none q hn)]; exact q) (fun c xs q => by rw [upd_ne (ne_of_none q hn)]; exact q) fun c ob q => by rw [upd_ne (ne_of_none q hn)]; exact q
end
noncomputable def Rd (H : Hp) (a : Addr) (u : HO) : Prop := H a = some u ∨ ∃ o, H a = some (.frz o u)
theorem Rd.ok {P : Program} {w : World} {H : Hp} {h : Heap} {a : Addr} {u : HO} (r : Rd H a u) (x : HOk P w H h) : ObjOk P w H h a u := by
  rcases r with r | ⟨o, r⟩
  · exact x a u r
  · obtain ⟨_, q⟩ := x a _ r
    exact q
noncomputable def Mut : Option HO → Prop
  | some (.lst _) => True
  | some (.dK _) => True
  | some (.dT _) => True
  | some (.set _ _) => True
  | some (.ins _ _ _) => True
  | some (.ext _) => True
  | some (.tab _) => True
  | _ => False
section
variable {P : Program} {w : World} {H : Hp} {h h' : Heap} {x e : Addr} {o' : HO}
theorem HOk.write (ok : HOk P w H h) (mu : Mut (H x)) (he : e = x ∨ H e = some (.own x)) (k : ∀ b u, b ≠ e → h.get? b = some u → h'.get? b = some u) (heo : ∃ u, h'.get? e = some u)
    (new : ObjOk P w (upd H x o') h' x o') : HOk P w (upd H x o') h' := fun b u q => by
  have nown : ∀ c y, H c = some (.own y) → c ≠ x := fun c y r z => by subst z; rw [r] at mu; exact mu
  have ntup : ∀ c xs, H c = some (.tup xs) → c ≠ x := fun c xs r z => by subst z; rw [r] at mu; exact mu
  by_cases hb : b = x
  · subst hb; rw [upd_same] at q; cases q; exact new
  · rw [upd_ne hb] at q
    by_cases hbe : b = e
    · have q' : H b = some (.own x) := by
        rcases he with z | z
        · exact absurd (hbe.trans z) hb
        · rw [hbe]; exact z
      rw [q] at q'; cases q'
      obtain ⟨v, hv⟩ := heo
      exact ⟨v, by rw [hbe]; exact hv⟩
    · refine (ok b u q).stay (fun c v hc r => k c v ?_ r) (fun c r => by rw [upd_ne (nown c b r)]; exact r) (fun c xs r => by rw [upd_ne (ntup c xs r)]; exact r) (fun c ob r => by rw [upd_ne (fun z => by subst z; rw [r] at mu; exact mu)]; exact r)
      rcases hc with rfl | hc
      · exact hbe
      · rintro rfl
        rcases he with z | z
        · exact nown c b hc z
        · rw [hc] at z; cases z; exact hb rfl
end
structure Un (fs ex : List Addr) (H H' : Hp) (h h' : Heap) : Prop where
  keep : ∀ b o, h.get? b = some o → H b = none → b ∉ fs → b ∉ ex → h'.get? b = some o
  slot : ∀ b o, h.get? b = some o → H b = none → b ∈ fs → b ∉ ex → ∃ sl, h'.get? b = some { o with slots := sl }
  free : ∀ b o, h.get? b = some o → H b = none → b ∉ ex → H' b = none
  there : ∀ b o, h.get? b = some o → b ∉ ex → ∃ o', h'.get? b = some o'
  tups : ∀ b xs, H b = some (.tup xs) → H' b = some (.tup xs)
  frzs : ∀ b o u, H b = some (.frz o u) → H' b = some (.frz o u)
  tbls : ∀ b ps, H b = some (.tbl ps) → ∃ more, H' b = some (.tbl (ps ++ more))
section
variable {fs fs' ex ex' : List Addr} {H H1 H2 : Hp} {h h1 h2 h' : Heap} {a x e : Addr} {o : HO}
theorem Un.any (u : Un fs ex H H1 h h1) {b : Addr} {ob : Obj} (q : h.get? b = some ob) (n : H b = none) (hx : b ∉ ex) : ∃ sl, h1.get? b = some { ob with slots := sl } := by
  by_cases hb : b ∈ fs
  · exact u.slot b ob q n hb hx
  · exact ⟨ob.slots, u.keep b ob q n hb hx⟩
theorem Un.kept (k : ∀ b u, h.get? b = some u → h'.get? b = some u) : Un fs ex H H h h' :=
  ⟨fun b ob q _ _ _ => k b ob q, fun b ob q _ _ _ => ⟨ob.slots, k b ob q⟩, fun _ _ _ n _ => n, fun b ob q _ => ⟨ob, k b ob q⟩, fun _ _ q => q, fun _ _ _ q => q, fun _ ps q => ⟨#[], by rw [q]; simp⟩⟩
theorem Un.refl : Un fs ex H H h h := Un.kept fun _ _ q => q
theorem Un.laid (k : ∀ b u, h.get? b = some u → h'.get? b = some u) (hp : h.objs.size ≤ a) (hn : H a = none) : Un fs ex H (upd H a o) h h' where
  keep := fun b u q _ _ _ => k b u q
  slot := fun b u q _ _ _ => ⟨u.slots, k b u q⟩
  free := fun b u q n _ => by rw [upd_ne (Nat.ne_of_lt (Nat.lt_of_lt_of_le (Heap.lt_size q) hp))]; exact n
  there := fun b u q _ => ⟨u, k b u q⟩
  tups := fun b xs q => by rw [upd_ne (ne_of_none q hn)]; exact q
  frzs := fun b u xs q => by rw [upd_ne (ne_of_none q hn)]; exact q
  tbls := fun b ps q => ⟨#[], by rw [upd_ne (ne_of_none q hn), q]; simp⟩
theorem Un.write (mu : Mut (H x)) (he : e = x ∨ H e = some (.own x)) (k : ∀ b u, b ≠ e → h.get? b = some u → h'.get? b = some u) (heo : ∃ u, h'.get? e = some u) : Un fs ex H (upd H x o) h h' := by
  have hx : ∀ b, H b = none → b ≠ x := fun b n z => by subst z; rw [n] at mu; exact mu
  have hb : ∀ b, H b = none → b ≠ e := fun b n z => by
    subst z
    rcases he with r | r
    · exact hx b n r
    · rw [n] at r; cases r
  have hm : ∀ b u, H b = some u → ¬ Mut (some u) → b ≠ x := fun b u q nm z => by subst z; rw [q] at mu; exact nm mu
  refine ⟨fun b u q n _ _ => k b u (hb b n) q, fun b u q n _ _ => ⟨u.slots, k b u (hb b n) q⟩, fun b u q n _ => by rw [upd_ne (hx b n)]; exact n, fun b u q _ => ?_,
    fun b xs q => by rw [upd_ne (hm b _ q fun z => z)]; exact q, fun b u xs q => by rw [upd_ne (hm b _ q fun z => z)]; exact q, fun b ps q => ⟨#[], by rw [upd_ne (hm b _ q fun z => z), q]; simp⟩⟩
  by_cases hbe : b = e
  · subst hbe; exact heo
  · exact ⟨u, k b u hbe q⟩
end
noncomputable def trk (h : Heap) (H : Hp) : List Addr := (List.range h.objs.size).filter fun a => (H a).isSome
noncomputable def hidT (h : Heap) (H : Hp) : Heap := PySem.W.hideAll h (trk h H)
theorem hidT_size (h : Heap) (H : Hp) : (hidT h H).objs.size = h.objs.size := PySem.W.hideAll_size _ _
theorem hidT_get {h : Heap} {H : Hp} {b : Addr} {o : Obj} (e : h.get? b = some o) (n : H b = none) : (hidT h H).get? b = some o :=
  PySem.W.hideAll_get _ e fun hm => by
    have q : (H b).isSome = true := (List.mem_filter.mp hm).2
    rw [n] at q; simp at q
theorem of_hidT {h : Heap} {H : Hp} {b : Addr} {o : Obj} (e : (hidT h H).get? b = some o) : h.get? b = some o ∧ H b = none := by
  have e' : h.get? b = some o := PySem.W.of_hideAll (trk h H) e
  refine ⟨e', ?_⟩
  cases q : H b with
  | none => rfl
  | some x =>
    have hm : b ∈ trk h H := List.mem_filter.mpr ⟨List.mem_range.mpr (Heap.lt_size e'), by simp [q]⟩
    have z : (hidT h H).get? b = none := PySem.W.hideAll_none (trk h H) hm
    rw [z] at e; cases e
end L2
namespace L2
open PySem PySem.Spec PyProof.Rows
structure Mod (K : PySem.W.Frag) (mg : Str → Option Value) (base : Heap) : Prop where
  kin : K.In base
  glob : base.Ns mainGlobals mg
  blt : ∃ mb, base.Ns builtinsNs mb ∧ ∀ x : Str, x ≠ "__name__" → mb x = bootBuiltins x
  nolimit : base.NoLimit
structure Cx where
  prog : Program
  w : World
  K : PySem.W.Frag
  mg : Str → Option Value
  base : Heap
  A : Around
  N : List Str
  s₀ : Shared
  H₀ : Hp
  env : Env
  outer : List Env
  stack : List Env
  ex : List Addr
  fn : Str → Bool
  calm : Bool
  pn : List (Addr × Obj)
  xe : Value → Shared → Prop
noncomputable def frs (l : List Env) : List Addr := l.filterMap (·.frame)
noncomputable abbrev Cx.fs (X : Cx) : List Addr := frs X.outer
noncomputable def Vis (sc : Scope) (x : Str) : Prop := sc.names.lookup x = some .local ∨ sc.names.lookup x = some .cell ∨ sc.names.lookup x = some .free
noncomputable def Loc (sc : Scope) (x : Str) : Prop := sc.names.lookup x = some .local ∨ sc.names.lookup x = some .cell
noncomputable def Look (env : Env) (h : Heap) (m : Str → Option Value) (x : Str) (u : Value) : Prop :=
  (env.kindOf x = some .local ∧ m x = some u) ∨ ((env.kindOf x = some .cell ∨ env.kindOf x = some .free) ∧ ∃ c, env.cells.lookup x = some c ∧ h.IsCell c (some u))
structure Cx.Ok (X : Cx) : Prop where
  mod : Mod X.K X.mg X.base
  kind : X.env.scope.kind = .function
  glob : X.env.globals = mainGlobals
  blt : X.env.builtins = builtinsNs
  above : X.s₀.heap.objs.size ≤ X.env.locals
  inj : ∀ x y c, X.env.cells.lookup x = some c → X.env.cells.lookup y = some c → x = y
  has : ∀ x, (X.env.kindOf x = some .cell ∨ X.env.kindOf x = some .free) → ∃ c, X.env.cells.lookup x = some c
  cab : ∀ x c, X.fn x = true → X.env.cells.lookup x = some c → X.s₀.heap.objs.size ≤ c
  hd : X.calm = true → X.A.handled = none
  frames : X.A.frames = some X.stack
  stk : X.stack = X.outer ∨ (X.stack = X.env :: X.outer ∧ X.env.frame = some X.env.locals)
  exf : ∀ b ∈ X.ex, b ≠ X.env.locals ∧ ∀ x c, X.env.cells.lookup x = some c → c ≠ b
  bs : ∀ b o, X.base.get? b = some o → X.s₀.heap.get? b = some o ∧ X.H₀ b = none
  bsz : X.base.objs.size ≤ X.s₀.heap.objs.size
  noex : ∀ b o, X.base.get? b = some o → b ∉ X.ex
  exfs : ∀ b ∈ X.ex, b ∉ X.fs
  funs : X.s₀.heap.FunFrames X.base X.outer
  frf : ∀ b ∈ X.fs, X.H₀ b = none
structure Inv (X : Cx) (pins : List (Addr × Obj)) (σ : List (Option V)) (H : Hp) (s : Shared) : Prop where
  ok : X.Ok
  os : s.os = X.s₀.os
  bare : AllBare s.gens
  base : Un X.fs X.ex X.H₀ H X.s₀.heap s.heap
  loc : ∃ m, s.heap.Ns X.env.locals m ∧ ∀ (i : Nat) (x : Str) (v : V), X.N[i]? = some x → σ[i]? = some (some v) → Vis X.env.scope x → ∃ u, RelV v u ∧ Look X.env s.heap m x u
  cell : ∀ x c, X.env.cells.lookup x = some c → ∃ v, s.heap.IsCell c v
  free : H X.env.locals = none
  freeC : ∀ x c, X.env.cells.lookup x = some c → H c = none
  pin : ∀ p ∈ X.pn ++ pins, s.heap.get? p.1 = some p.2 ∧ H p.1 = none ∧ p.1 ≠ X.env.locals ∧ p.1 ∉ X.fs ∧ ∀ v, p.2.data ≠ .cell v
  hok : HOk X.prog X.w H s.heap
  len : σ.length = X.N.length
section
variable {X : Cx} {pins : List (Addr × Obj)} {σ : List (Option V)} {H H' : Hp} {s : Shared} {h' : Heap}
theorem Cx.Ok.nofr (ok : X.Ok) {b : Addr} {o : Obj} (e : X.base.get? b = some o) : b ∉ X.fs := fun hb => by
  have := (ok.funs.mem hb).1
  rw [e] at this; cases this
theorem Inv.bs (I : Inv X pins σ H s) : ∀ b o, X.base.get? b = some o → s.heap.get? b = some o ∧ H b = none := fun b o e =>
  ⟨I.base.keep b o (I.ok.bs b o e).1 (I.ok.bs b o e).2 (I.ok.nofr e) (I.ok.noex b o e), I.base.free b o (I.ok.bs b o e).1 (I.ok.bs b o e).2 (I.ok.noex b o e)⟩
theorem Inv.bk (I : Inv X pins σ H s) : ∀ b o, X.base.get? b = some o → s.heap.get? b = some o := fun b o e => (I.bs b o e).1
theorem Inv.mod (I : Inv X pins σ H s) : Mod X.K X.mg X.base := I.ok.mod
theorem Inv.kIn (I : Inv X pins σ H s) : X.K.In s.heap := I.ok.mod.kin.keeps I.bk
theorem Inv.lt (I : Inv X pins σ H s) : X.env.locals < s.heap.objs.size := let ⟨_, hn, _⟩ := I.loc; hn.lt
theorem Inv.sz (I : Inv X pins σ H s) : X.s₀.heap.objs.size ≤ s.heap.objs.size := Nat.le_trans I.ok.above (Nat.le_of_lt I.lt)
theorem Inv.nofs (I : Inv X pins σ H s) {a : Addr} (h : s.heap.objs.size ≤ a) : a ∉ X.fs := fun hb => by
  obtain ⟨_, o, ho, _⟩ := I.ok.funs.mem hb
  exact absurd (Nat.lt_of_lt_of_le (Heap.lt_size ho) (Nat.le_trans I.sz h)) (Nat.lt_irrefl _)
theorem Inv.cne (I : Inv X pins σ H s) : ∀ x c, X.env.cells.lookup x = some c → c ≠ X.env.locals := fun x c e z => by
  obtain ⟨v, o, ho, hd⟩ := I.cell x c e
  obtain ⟨m, ⟨o', es, ep, ho', hd', _⟩, _⟩ := I.loc
  rw [z, ho'] at ho; cases ho; rw [hd'] at hd; cases hd
theorem Inv.funs (I : Inv X pins σ H s) : s.heap.FunFrames X.base X.outer := by
  have all : ∀ (l : List Env), (∀ b ∈ frs l, b ∈ X.fs) → X.s₀.heap.FunFrames X.base l → s.heap.FunFrames X.base l := by
    intro l
    induction l with
    | nil => intro _ _; trivial
    | cons env r ih =>
      intro hs hl
      obtain ⟨hk, ⟨L, o, hf, hn, ho, hd⟩, hr⟩ := hl
      have hL : L ∈ X.fs := hs L (by unfold frs; rw [List.filterMap_cons, hf]; exact List.mem_cons_self)
      obtain ⟨sl, e⟩ := I.base.slot L o ho (I.ok.frf L hL) hL fun z => I.ok.exfs L z hL
      exact ⟨hk, ⟨L, _, hf, hn, e, hd⟩, ih (fun b hb => hs b (by unfold frs; rw [List.filterMap_cons, hf]; exact List.mem_cons_of_mem _ hb)) hr⟩
  exact all X.outer (fun _ hb => hb) I.ok.funs
theorem Inv.stack (I : Inv X pins σ H s) : s.heap.FunFrames X.base X.stack := by
  rcases I.ok.stk with e | ⟨e, hf⟩
  · rw [e]; exact I.funs
  · rw [e]
    obtain ⟨m, hn, _⟩ := I.loc
    refine .cons (by rw [I.ok.kind]; decide) hf hn ?_ I.funs
    exact Heap.get?_none_of_le (Nat.le_trans I.ok.bsz I.ok.above)
theorem Inv.stkSub (I : Inv X pins σ H s) : ∀ b ∈ frs X.stack, b ∈ X.env.locals :: X.fs := fun b hb => by
  rcases I.ok.stk with e | ⟨e, hf⟩
  · rw [e] at hb; exact List.mem_cons_of_mem _ hb
  · rw [e] at hb
    unfold frs at hb
    rw [List.filterMap_cons, hf] at hb
    exact hb
theorem Inv.stkFree (I : Inv X pins σ H s) : ∀ b ∈ frs X.stack, H b = none := fun b hb => by
  rcases List.mem_cons.mp (I.stkSub b hb) with e | hb
  · rw [e]; exact I.free
  · obtain ⟨_, o, ho, _⟩ := I.ok.funs.mem hb
    exact I.base.free b o ho (I.ok.frf b hb) fun z => I.ok.exfs b z hb
theorem Inv.step {g' : Array GenState} {t' : Nat} {d' : Drawn} {ch : List Addr} (I : Inv X pins σ H s)
    (hch : ∀ b ∈ ch, (b ∈ X.ex ∨ X.s₀.heap.objs.size ≤ b) ∧ b ≠ X.env.locals ∧ (∀ x c, X.env.cells.lookup x = some c → c ≠ b) ∧ ∀ p ∈ X.pn ++ pins, p.1 ≠ b)
    (keep : ∀ b o, b ≠ X.env.locals → b ∉ X.fs → b ∉ ch → s.heap.get? b = some o → H b = none → h'.get? b = some o)
    (slot : ∀ b o, b ≠ X.env.locals → b ∈ X.fs → b ∉ ch → s.heap.get? b = some o → H b = none → ∃ sl, h'.get? b = some { o with slots := sl }) (free : ∀ b o, b ∉ ch → s.heap.get? b = some o → H b = none → H' b = none)
    (there : ∀ b o, b ∉ ch → s.heap.get? b = some o → ∃ o', h'.get? b = some o')
    (tups : ∀ b xs, H b = some (.tup xs) → H' b = some (.tup xs)) (frzs : ∀ b o u, H b = some (.frz o u) → H' b = some (.frz o u)) (tbls : ∀ b ps, H b = some (.tbl ps) → ∃ more, H' b = some (.tbl (ps ++ more)))
    (ns : ∀ m, s.heap.Ns X.env.locals m → h'.Ns X.env.locals m) (hok : HOk X.prog X.w H' h') (hg : AllBare g') :
    Inv X pins σ H' { s with heap := h', gens := g', drawn := d', toks := t' } := by
  have neL : ∀ b o, X.s₀.heap.get? b = some o → b ≠ X.env.locals := fun b o e => Nat.ne_of_lt (Nat.lt_of_lt_of_le (Heap.lt_size e) I.ok.above)
  have neC : ∀ b o, X.s₀.heap.get? b = some o → b ∉ X.ex → b ∉ ch := fun b o e hx hb => by
    rcases (hch b hb).1 with z | z
    · exact hx z
    · exact absurd (Nat.lt_of_lt_of_le (Heap.lt_size e) z) (Nat.lt_irrefl _)
  have cellK : ∀ x c, X.env.cells.lookup x = some c → ∀ v, s.heap.IsCell c v → h'.IsCell c v := fun x c e v ⟨o, ho, hd⟩ => by
    have nch : c ∉ ch := fun z => (hch c z).2.2.1 x c e rfl
    by_cases hc : c ∈ X.fs
    · obtain ⟨sl, q⟩ := slot c o (I.cne x c e) hc nch ho (I.freeC x c e)
      exact ⟨_, q, hd⟩
    · exact ⟨o, keep c o (I.cne x c e) hc nch ho (I.freeC x c e), hd⟩
  refine ⟨I.ok, I.os, hg, ⟨fun b o e n hb hx => ?_, fun b o e n hb hx => ?_, fun b o e n hx => ?_, fun b o e hx => ?_, fun b xs e => tups b xs (I.base.tups b xs e), fun b o xs e => frzs b o xs (I.base.frzs b o xs e), fun b ps e => ?_⟩, ?_, fun x c e => ?_, ?_, fun x c e => ?_, fun p hp => ?_, hok, I.len⟩
  · exact keep b o (neL b o e) hb (neC b o e hx) (I.base.keep b o e n hb hx) (I.base.free b o e n hx)
  · obtain ⟨sl, e1⟩ := I.base.slot b o e n hb hx
    obtain ⟨sl', e2⟩ := slot b _ (neL b o e) hb (neC b o e hx) e1 (I.base.free b o e n hx)
    exact ⟨sl', e2⟩
  · obtain ⟨o', e1⟩ := I.base.there b o e hx
    exact free b o' (neC b o e hx) e1 (I.base.free b o e n hx)
  · obtain ⟨o', e1⟩ := I.base.there b o e hx
    exact there b o' (neC b o e hx) e1
  · obtain ⟨m1, e1⟩ := I.base.tbls b ps e
    obtain ⟨m2, e2⟩ := tbls b _ e1
    exact ⟨m1 ++ m2, by rw [e2, Array.append_assoc]⟩
  · obtain ⟨m, hn, hl⟩ := I.loc
    refine ⟨m, ns m hn, fun i x v e1 e2 e3 => ?_⟩
    obtain ⟨u, r, l⟩ := hl i x v e1 e2 e3
    refine ⟨u, r, ?_⟩
    rcases l with l | ⟨k, c, e, z⟩
    · exact .inl l
    · exact .inr ⟨k, c, e, cellK x c e _ z⟩
  · obtain ⟨v, z⟩ := I.cell x c e
    exact ⟨v, cellK x c e v z⟩
  · obtain ⟨m, ⟨o, _, _, ho, _⟩, _⟩ := I.loc
    exact free _ o (fun z => (hch _ z).2.1 rfl) ho I.free
  · obtain ⟨v, o, ho, hd⟩ := I.cell x c e
    exact free c o (fun z => (hch c z).2.2.1 x c e rfl) ho (I.freeC x c e)
  · obtain ⟨e, n, ne, nf, d⟩ := I.pin p hp
    have nch : p.1 ∉ ch := fun z => (hch p.1 z).2.2.2 p hp rfl
    exact ⟨keep p.1 p.2 ne nf nch e n, free p.1 p.2 nch e n, ne, nf, d⟩
theorem Inv.un {t' : Nat} (I : Inv X pins σ H s) (u : Un X.fs [] H H' s.heap h') (hok : HOk X.prog X.w H' h') : Inv X pins σ H' { s with heap := h', toks := t' } := by
  obtain ⟨m, ⟨o, es, ep, ho, r⟩, _⟩ := id I.loc
  obtain ⟨sl, hL⟩ := u.any ho I.free (by simp)
  exact I.step (g' := s.gens) (d' := s.drawn) (ch := []) (fun _ z => nomatch z) (fun b o _ hb _ e n => u.keep b o e n hb (by simp)) (fun b o _ hb _ e n => u.slot b o e n hb (by simp)) (fun b o _ e n => u.free b o e n (by simp)) (fun b o _ e => u.there b o e (by simp)) u.tups u.frzs u.tbls (fun m' hm => by
    obtain ⟨o', es', ep', ho', r'⟩ := hm
    rw [ho] at ho'; cases ho'
    exact ⟨_, es', ep', hL, r'⟩) hok I.bare
theorem Inv.call {g' : Array GenState} {t' : Nat} {d' : Drawn} {ch : List Addr} (I : Inv X pins σ H s) (u : Un (frs X.stack) ch H H' s.heap h') (hok : HOk X.prog X.w H' h') (hg : AllBare g')
    (hch : ∀ b ∈ ch, (b ∈ X.ex ∨ X.s₀.heap.objs.size ≤ b) ∧ b ≠ X.env.locals ∧ (∀ x c, X.env.cells.lookup x = some c → c ≠ b) ∧ ∀ p ∈ X.pn ++ pins, p.1 ≠ b) :
    Inv X pins σ H' { s with heap := h', gens := g', drawn := d', toks := t' } := by
  obtain ⟨m, ⟨o, es, ep, ho, r⟩, _⟩ := id I.loc
  obtain ⟨sl, hL⟩ := u.any ho I.free fun z => (hch _ z).2.1 rfl
  exact I.step (ch := ch) hch (fun b o hL hb hc e n => u.keep b o e n (fun z => (List.mem_cons.mp (I.stkSub b z)).elim hL hb) hc) (fun b o _ _ hc e n => u.any e n hc) (fun b o hc e n => u.free b o e n hc) (fun b o hc e => u.there b o e hc) u.tups u.frzs u.tbls (fun m' hm => by
    obtain ⟨o', es', ep', ho', r'⟩ := hm
    rw [ho] at ho'; cases ho'
    exact ⟨_, es', ep', hL, r'⟩) hok hg
theorem Inv.turned {t' : Nat} {it : Addr} (I : Inv X pins σ H s) (k : ∀ b o, b ≠ it → s.heap.get? b = some o → h'.get? b = some o) (hn : H it = none) (hL : it ≠ X.env.locals)
    (h1 : it ∈ X.ex ∨ X.s₀.heap.objs.size ≤ it) (h2 : ∀ x c, X.env.cells.lookup x = some c → c ≠ it) (h3 : ∀ p ∈ X.pn ++ pins, p.1 ≠ it) : Inv X pins σ H { s with heap := h', toks := t' } := by
  have nit : ∀ b u, H b = some u → b ≠ it := fun b u e z => by rw [z, hn] at e; cases e
  refine I.step (g' := s.gens) (d' := s.drawn) (ch := [it]) (fun b hb => ?_) (fun b o _ _ hc e _ => k b o (fun z => hc (by simp [z])) e) (fun b o _ _ hc e _ => ⟨o.slots, k b o (fun z => hc (by simp [z])) e⟩) (fun _ _ _ _ n => n)
    (fun b o hc e => ⟨o, k b o (fun z => hc (by simp [z])) e⟩) (fun _ _ e => e) (fun _ _ _ e => e) (fun b ps e => ⟨#[], by rw [e]; simp⟩) (fun m hm => ?_) (fun b u e => ?_) I.bare
  · have e : b = it := by simpa using hb
    subst e
    exact ⟨h1, hL, h2, h3⟩
  · obtain ⟨o, es, ep, ho, r⟩ := hm
    exact ⟨o, es, ep, k _ o (Ne.symm hL) ho, r⟩
  · refine (I.hok b u e).stay (fun c v hc q => k c v ?_ q) (fun _ q => q) fun _ _ q => q
    rcases hc with z | z
    · rw [z]; exact nit b u e
    · exact nit c _ z
theorem Inv.tok (I : Inv X pins σ H s) (t : Nat) : Inv X pins σ H { s with toks := t } := I.un (h' := s.heap) (t' := t) Un.refl I.hok
theorem Inv.kept {t' : Nat} (I : Inv X pins σ H s) (k : ∀ b u, s.heap.get? b = some u → h'.get? b = some u) : Inv X pins σ H { s with heap := h', toks := t' } := I.un (Un.kept k) (I.hok.kept k)
theorem Inv.laid {a : Addr} {o : HO} {t' : Nat} (I : Inv X pins σ H s) (k : ∀ b u, s.heap.get? b = some u → h'.get? b = some u) (hp : s.heap.objs.size ≤ a) (new : ObjOk X.prog X.w (upd H a o) h' a o) :
    Inv X pins σ (upd H a o) { s with heap := h', toks := t' } := I.un (Un.laid k hp (I.hok.fresh hp)) (I.hok.laid k hp new)
theorem Inv.write {x e : Addr} {o : HO} {t' : Nat} (I : Inv X pins σ H s) (mu : Mut (H x)) (he : e = x ∨ H e = some (.own x)) (k : ∀ b u, b ≠ e → s.heap.get? b = some u → h'.get? b = some u) (heo : ∃ u, h'.get? e = some u)
    (new : ObjOk X.prog X.w (upd H x o) h' x o) : Inv X pins σ (upd H x o) { s with heap := h', toks := t' } := I.un (Un.write mu he k heo) (I.hok.write mu he k heo new)
theorem Inv.pins_of {pins' : List (Addr × Obj)} (I : Inv X pins σ H s) (h : ∀ p ∈ pins', s.heap.get? p.1 = some p.2 ∧ H p.1 = none ∧ p.1 ≠ X.env.locals ∧ p.1 ∉ X.fs ∧ ∀ v, p.2.data ≠ .cell v) : Inv X pins' σ H s :=
  ⟨I.ok, I.os, I.bare, I.base, I.loc, I.cell, I.free, I.freeC, fun p hp => (List.mem_append.mp hp).elim (fun z => I.pin p (List.mem_append_left _ z)) (h p), I.hok, I.len⟩
theorem nodup_ix {N : List Str} (hN : N.Nodup) {i j : Nat} {x : Str} (a : N[i]? = some x) (b : N[j]? = some x) : i = j := by
  obtain ⟨h1, e1⟩ := List.getElem?_eq_some_iff.mp a
  obtain ⟨h2, e2⟩ := List.getElem?_eq_some_iff.mp b
  exact (List.getElem_inj hN).mp (e1.trans e2.symm)
theorem store_ok2 {M : Model} {A : Around} {E : Value → Shared → Prop} {i : Nat} {x : Str} {v : V} {u : Value} {Q : Unit → Shared → Prop} (I : Inv X pins σ H s) (hN : X.N.Nodup) (hi : X.N[i]? = some x) (hx : Loc X.env.scope x) (r : RelV v u)
    (h : ∀ s', Inv X pins (σ.set i (some v)) H s' → (∃ a, Heap.SameBut a s.heap s'.heap ∧ (a = X.env.locals ∨ X.env.cells.lookup x = some a)) → Q () s') (hf : X.fn x = true ∨ X.env.scope.names.lookup x = some .local := by first | exact .inl rfl | exact .inr rfl | assumption) : wpAny M A (storeName X.env x u) Q E s := by
  obtain ⟨m, hn, hl⟩ := id I.loc
  have hcls : (X.env.scope.kind == .class || (X.env.scope.kind == .module && X.env.locals != X.env.globals)) = false := by rw [I.ok.kind]; rfl
  have hiσ : i < σ.length := by rw [I.len]; exact (List.getElem?_eq_some_iff.mp hi).1
  have cne := I.cne
  have tracked : ∀ {a : Addr} {h' : Heap}, (∃ o, s.heap.get? a = some o ∧ H a = none) → Heap.SameBut a s.heap h' → HOk X.prog X.w H h' := fun {a h'} ha hs b ob e => by
    obtain ⟨_, _, hfree⟩ := ha
    refine (I.hok b ob e).stay (fun c w' hc q => (hs.2 c ?_).trans q) (fun _ q => q) fun _ _ q => q
    rintro rfl
    rcases hc with rfl | hc
    · rw [hfree] at e; cases e
    · rw [hfree] at hc; cases hc
  rcases hx with hk | hk
  · refine wpAny_storeName_local hk hn (fun h' hn' hs => ?_) hcls
    obtain ⟨oL, _, _, hoL, _⟩ := id hn
    refine h _ ⟨I.ok, I.os, I.bare, ⟨fun b o e n hb hx => ?_, fun b o e n hb hx => ?_, I.base.free, fun b o e hx => ?_, I.base.tups, I.base.frzs, I.base.tbls⟩, ⟨_, hn', fun j y v' e1 e2 e3 => ?_⟩, fun y c e => ?_, I.free, I.freeC, fun p hp => ?_, tracked ⟨oL, hoL, I.free⟩ hs, by simpa using I.len⟩ ⟨_, hs, .inl rfl⟩
    · exact (hs.2 b (Nat.ne_of_lt (Nat.lt_of_lt_of_le (Heap.lt_size e) I.ok.above))).trans (I.base.keep b o e n hb hx)
    · obtain ⟨sl, e1⟩ := I.base.slot b o e n hb hx
      exact ⟨sl, (hs.2 b (Nat.ne_of_lt (Nat.lt_of_lt_of_le (Heap.lt_size e) I.ok.above))).trans e1⟩
    · obtain ⟨o', e1⟩ := I.base.there b o e hx
      exact ⟨o', (hs.2 b (Nat.ne_of_lt (Nat.lt_of_lt_of_le (Heap.lt_size e) I.ok.above))).trans e1⟩
    · by_cases hj : j = i
      · subst hj
        rw [hi] at e1; cases e1
        rw [List.getElem?_set_self hiσ] at e2
        cases e2
        exact ⟨u, r, .inl ⟨hk, by simp⟩⟩
      · rw [List.getElem?_set_ne (Ne.symm hj)] at e2
        obtain ⟨u', r', q⟩ := hl j y v' e1 e2 e3
        refine ⟨u', r', ?_⟩
        rcases q with ⟨k, e⟩ | ⟨k, c, e, z⟩
        · refine .inl ⟨k, ?_⟩
          have : y ≠ x := fun e => hj (nodup_ix hN e1 (e ▸ hi))
          simp [this, e]
        · exact .inr ⟨k, c, e, z.sameBut hs (cne y c e)⟩
    · obtain ⟨w', z⟩ := I.cell y c e
      exact ⟨w', z.sameBut hs (cne y c e)⟩
    · obtain ⟨e, n, ne, nf, d⟩ := I.pin p hp
      exact ⟨(hs.2 p.1 ne).trans e, n, ne, nf, d⟩
  · have hfn : X.fn x = true := by
      rcases hf with z | z
      · exact z
      · rw [z] at hk; cases hk
    obtain ⟨c, hc⟩ := I.ok.has x (.inl hk)
    obtain ⟨w', z⟩ := I.cell x c hc
    refine wpAny_storeName_cell I.ok.kind hk hc z (fun h' hc' hs => ?_)
    obtain ⟨oc, hoc, hocd⟩ := id z
    refine h { s with heap := h' } ⟨I.ok, I.os, I.bare, ⟨fun b o e n hb hx => ?_, fun b o e n hb hx => ?_, I.base.free, fun b o e hx => ?_, I.base.tups, I.base.frzs, I.base.tbls⟩, ⟨m, hn.sameBut hs (Ne.symm (cne x c hc)), fun j y v' e1 e2 e3 => ?_⟩, fun y c' e => ?_, I.free, I.freeC, fun p hp => ?_, tracked ⟨oc, hoc, I.freeC x c hc⟩ hs, by simpa using I.len⟩ ⟨c, hs, .inr hc⟩
    · exact (hs.2 b (Nat.ne_of_lt (Nat.lt_of_lt_of_le (Heap.lt_size e) (I.ok.cab x c hfn hc)))).trans (I.base.keep b o e n hb hx)
    · obtain ⟨sl, e1⟩ := I.base.slot b o e n hb hx
      exact ⟨sl, (hs.2 b (Nat.ne_of_lt (Nat.lt_of_lt_of_le (Heap.lt_size e) (I.ok.cab x c hfn hc)))).trans e1⟩
    · obtain ⟨o', e1⟩ := I.base.there b o e hx
      exact ⟨o', (hs.2 b (Nat.ne_of_lt (Nat.lt_of_lt_of_le (Heap.lt_size e) (I.ok.cab x c hfn hc)))).trans e1⟩
    · by_cases hj : j = i
      · subst hj
        rw [hi] at e1; cases e1
        rw [List.getElem?_set_self hiσ] at e2
        cases e2
        exact ⟨u, r, .inr ⟨.inl hk, c, hc, hc'⟩⟩
      · rw [List.getElem?_set_ne (Ne.symm hj)] at e2
        obtain ⟨u', r', q⟩ := hl j y v' e1 e2 e3
        refine ⟨u', r', ?_⟩
        rcases q with q | ⟨k, c', e, z'⟩
        · exact .inl q
        · refine .inr ⟨k, c', e, z'.sameBut hs ?_⟩
          rintro rfl
          exact hj (nodup_ix hN e1 (I.ok.inj _ _ _ e hc ▸ hi))
    · by_cases hcc : c' = c
      · subst hcc; exact ⟨_, hc'⟩
      · obtain ⟨w2, z2⟩ := I.cell y c' e
        exact ⟨w2, z2.sameBut hs hcc⟩
    · obtain ⟨e, n, ne, nf, d⟩ := I.pin p hp
      refine ⟨(hs.2 p.1 ?_).trans e, n, ne, nf, d⟩
      intro q
      rw [q, hoc] at e
      have q' : oc = p.2 := Option.some.inj e
      exact d w' (by rw [← q']; exact hocd)
theorem store_ok {M : Model} {A : Around} {E : Value → Shared → Prop} {i : Nat} {x : Str} {v : V} {u : Value} {Q : Unit → Shared → Prop} (I : Inv X pins σ H s) (hN : X.N.Nodup) (hi : X.N[i]? = some x) (hx : Loc X.env.scope x) (r : RelV v u)
    (h : ∀ s', Inv X pins (σ.set i (some v)) H s' → Q () s') (hf : X.fn x = true ∨ X.env.scope.names.lookup x = some .local := by first | exact .inl rfl | exact .inr rfl | assumption) : wpAny M A (storeName X.env x u) Q E s :=
  store_ok2 I hN hi hx r (fun s' I' _ => h s' I') hf
theorem Inv.call' {s' : Shared} {ch : List Addr} (I : Inv X pins σ H s) (ho : s'.os = s.os) (u : Un (frs X.stack) ch H H' s.heap s'.heap) (hok : HOk X.prog X.w H' s'.heap) (hg : AllBare s'.gens)
    (hch : ∀ b ∈ ch, (b ∈ X.ex ∨ X.s₀.heap.objs.size ≤ b) ∧ b ≠ X.env.locals ∧ (∀ x c, X.env.cells.lookup x = some c → c ≠ b) ∧ ∀ p ∈ X.pn ++ pins, p.1 ≠ b) : Inv X pins σ H' s' := by
  obtain ⟨h', g', d', t', o'⟩ := s'
  have e : o' = s.os := ho
  subst e
  exact I.call (g' := g') (t' := t') (d' := d') u hok hg hch
end
noncomputable abbrev XK := Value → Option Addr → Hp → Prop
noncomputable abbrev St := List (Option V)
noncomputable abbrev VK := V → Hp → Prop
noncomputable abbrev TE := St → Hp → VK → Prop
noncomputable abbrev TT := St → Hp → (Bool → Hp → Prop) → Prop
noncomputable abbrev TA := St → Hp → (List V → Hp → Prop) → Prop
structure Ends where
  nx : St → Hp → Prop
  rt : VK
  bk : St → Hp → Prop := fun _ _ => False
  ct : St → Hp → Prop := fun _ _ => False
noncomputable abbrev TS := Ends → St → Hp → Prop
noncomputable def EP (X : Cx) (pins : List (Addr × Obj)) (σ : St) (Q : VK) (u : Value) (s' : Shared) : Prop := ∃ v H', Inv X pins σ H' s' ∧ RelV v u ∧ Q v H'
noncomputable def TP (X : Cx) (pins : List (Addr × Obj)) (σ : St) (Q : Bool → Hp → Prop) (b : Bool) (s' : Shared) : Prop := ∃ H', Inv X pins σ H' s' ∧ Q b H'
noncomputable def AP (X : Cx) (pins : List (Addr × Obj)) (σ : St) (Q : List V → Hp → Prop) (us : List Value) (s' : Shared) : Prop := ∃ vs H', Inv X pins σ H' s' ∧ Vals vs us ∧ Q vs H'
noncomputable def SP (X : Cx) (pins : List (Addr × Obj)) (D : Ends) (f : Flow) (s' : Shared) : Prop :=
  match f with
  | .next => ∃ σ' H', Inv X pins σ' H' s' ∧ D.nx σ' H'
  | .brk => ∃ σ' H', Inv X pins σ' H' s' ∧ D.bk σ' H'
  | .cont => ∃ σ' H', Inv X pins σ' H' s' ∧ D.ct σ' H'
  | .ret u => ∃ v σ' H', Inv X pins σ' H' s' ∧ RelV v u ∧ D.rt v H'
noncomputable def PE (X : Cx) (e : Expr) (t : TE) : Prop :=
  ∀ (pins : List (Addr × Obj)) (s : Shared) (σ : St) (H : Hp) (Q : VK), Inv X pins σ H s → t σ H Q → wpAny (model X.prog X.w) X.A (eval e X.env) (EP X pins σ Q) X.xe s
noncomputable def PT (X : Cx) (e : Expr) (t : TT) : Prop :=
  ∀ (pins : List (Addr × Obj)) (s : Shared) (σ : St) (H : Hp) (Q : Bool → Hp → Prop), Inv X pins σ H s → t σ H Q → wpAny (model X.prog X.w) X.A (isTrue e X.env (eval e X.env)) (TP X pins σ Q) X.xe s
noncomputable def PW (X : Cx) (e : Expr) (t : TT) : Prop :=
  ∀ (whole : Sem Value) (pins : List (Addr × Obj)) (s : Shared) (σ : St) (H : Hp) (Q : Bool → Hp → Prop), Inv X pins σ H s → t σ H Q → wpAny (model X.prog X.w) X.A (isTrue e X.env whole) (TP X pins σ Q) X.xe s
theorem PW.pt {X : Cx} {e : Expr} {t : TT} (h : PW X e t) : PT X e t := h _
noncomputable def PA (X : Cx) (es : List Expr) (t : TA) : Prop :=
  ∀ (pos : Pos) (pins : List (Addr × Obj)) (s : Shared) (σ : St) (H : Hp) (Q : List V → Hp → Prop), Inv X pins σ H s → t σ H Q → wpAny (model X.prog X.w) X.A (spliced (backTo pos (starEach es X.env))) (AP X pins σ Q) X.xe s
noncomputable def PS (X : Cx) (st : Stmt) (t : TS) : Prop :=
  ∀ (pins : List (Addr × Obj)) (s : Shared) (σ : St) (H : Hp) (D : Ends), Inv X pins σ H s → t D σ H → wpAny (model X.prog X.w) X.A (exec st X.env) (SP X pins D) X.xe s
noncomputable def PSs (X : Cx) (st : List Stmt) (t : TS) : Prop :=
  ∀ (pins : List (Addr × Obj)) (s : Shared) (σ : St) (H : Hp) (D : Ends), Inv X pins σ H s → t D σ H → wpAny (model X.prog X.w) X.A (execs st X.env) (SP X pins D) X.xe s
theorem thn {α : Type} {t : Sem α} {Q Q' : α → Shared → Prop} {M : Model} {A : Around} {E : Value → Shared → Prop} {s : Shared} (h : wpAny M A t Q E s) (hQ : ∀ a s, Q a s → Q' a s) : wpAny M A t Q' E s := wpAny_mono h hQ fun _ _ x => x
end L2
namespace L2
open PySem PySem.Spec PyProof.Rows
section
variable {X : Cx}
noncomputable def tVar (i : Nat) : TE := fun σ H Q => ∃ v, σ[i]? = some (some v) ∧ Q v H
noncomputable def tC (v : V) : TE := fun _ H Q => Q v H
theorem pe_var {i : Nat} {x : Str} {pos : Pos} (hN : X.N[i]? = some x) (hv : Vis X.env.scope x) (hd : (x == ("__debug__" : Str)) = false := by decide) (hcd : (x == ("__classdict__" : Str)) = false := by decide) : PE X (.Name x pos) (tVar i) := by
  intro pins s σ H Q I h
  obtain ⟨v, e, h⟩ := h
  obtain ⟨m, hn, hl⟩ := I.loc
  obtain ⟨u, r, l⟩ := hl i x v hN e hv
  have fin : EP X pins σ Q u s := ⟨v, H, I, r, h⟩
  rcases l with ⟨hk, hm⟩ | ⟨hk, c, hc, hcell⟩
  · exact wpAny_Name (wpAny_loadName_local I.ok.kind hk hn hm fin) hd
  · rcases hk with hk | hk
    · exact wpAny_Name (wpAny_loadName_cell I.ok.kind hk hc hcell fin) hd
    · exact wpAny_Name (wpAny_loadName_free I.ok.kind hk hc hcell fin hcd) hd
theorem pe_int {i j pos} : PE X (.Constant (.int i) j pos) (tC (.int i)) := fun _ _ _ H _ I h => wpAny_Constant_int ⟨.int i, H, I.tok _, ⟨_, rfl⟩, h⟩
theorem pe_bl {b j pos} : PE X (.Constant (.bool b) j pos) (tC (.bl b)) := fun _ _ _ H _ I h => Constant_bool ⟨.bl b, H, I, rfl, h⟩
theorem pe_non {j pos} : PE X (.Constant .none j pos) (tC .non) := fun _ _ _ H _ I h => Constant_none ⟨.non, H, I, rfl, h⟩
noncomputable def Gl (X : Cx) (x : Str) : Prop := X.env.kindOf x = some .globalImplicit
theorem ld_glob {E : Value → Shared → Prop} {pins : List (Addr × Obj)} {s : Shared} {σ : St} {H : Hp} {x : Str} {u : Value} {pos : Pos} {Q : Value → Shared → Prop} (I : Inv X pins σ H s) (hg : Gl X x) (hm : X.mg x = some u) (h : Q u s)
    (hd : (x == ("__debug__" : Str)) = false := by decide) : wpAny (model X.prog X.w) X.A (eval (.Name x pos) X.env) Q E s :=
  Calls.Name_function_global I.ok.kind hg (Calls.loadGlobal_global (by rw [I.ok.glob]; exact I.mod.glob.keeps I.bk) hm h) hd
theorem ld_blt {E : Value → Shared → Prop} {pins : List (Addr × Obj)} {s : Shared} {σ : St} {H : Hp} {x : Str} {u : Value} {pos : Pos} {Q : Value → Shared → Prop} (I : Inv X pins σ H s) (hg : Gl X x) (hm : X.mg x = none) (hv : bootBuiltins x = some u) (h : Q u s)
    (hn : x ≠ "__name__" := by decide) (hd : (x == ("__debug__" : Str)) = false := by decide) : wpAny (model X.prog X.w) X.A (eval (.Name x pos) X.env) Q E s := by
  obtain ⟨mb, h1, h2⟩ := I.mod.blt
  exact Calls.Name_function_global I.ok.kind hg (Calls.loadGlobal_builtin (by rw [I.ok.glob]; exact I.mod.glob.keeps I.bk) hm (by rw [I.ok.blt]; exact h1.keeps I.bk) ((h2 x hn).trans hv) h) hd
theorem pe_glob {x : Str} {v : V} {u : Value} {pos : Pos} (hg : Gl X x) (hm : X.mg x = some u) (r : RelV v u) (hd : (x == ("__debug__" : Str)) = false := by decide) : PE X (.Name x pos) (tC v) :=
  fun _ _ _ H _ I h => ld_glob I hg hm ⟨v, H, I, r, h⟩ hd
variable {a b : Expr} {ta tb : TE} {pos : Pos}
noncomputable def tB (t : TE) : TT := fun σ H Q => t σ H fun x H1 => ∃ c, x = .bl c ∧ Q c H1
theorem pt_val {e : Expr} {t : TE} (h : PE X e t) (he : ∀ whole, isTrue e X.env whole = (do let v ← whole; standAt e.pos; holding [v] (truthy v)) := by intro _; rfl) : PT X e (tB t) := by
  intro pins s σ H Q I hw
  refine isTrue_plain (thn (h pins s σ H _ I hw) fun v s1 ⟨x, H1, I1, r1, q1⟩ => ?_) (he _)
  obtain ⟨d, rfl, q⟩ := q1
  cases r1
  exact wpAny_truthy_bool ⟨H1, I1, q⟩
variable {tA tB' : TT} {rest : List Expr}
noncomputable def tAnd (t u : TT) : TT := fun σ H Q => t σ H fun c H1 => if c = true then u σ H1 Q else Q false H1
noncomputable def tOr (t u : TT) : TT := fun σ H Q => t σ H fun c H1 => if c = true then Q true H1 else u σ H1 Q
noncomputable def tNot (t : TT) : TT := fun σ H Q => t σ H fun c H1 => Q (!c) H1
theorem pw_and1 (ha : PT X a tA) : PW X (.BoolOp .And [a] pos) tA := by
  intro wh pins s σ H Q I h
  refine isTrue_and (thn (ha pins s σ H Q I h) fun c s1 e => ?_)
  cases c with
  | true => exact isTrue_and_nil e
  | false => exact e
theorem pw_or1 (ha : PT X a tA) : PW X (.BoolOp .Or [a] pos) tA := by
  intro wh pins s σ H Q I h
  refine isTrue_or (thn (ha pins s σ H Q I h) fun c s1 e => ?_)
  cases c with
  | false => exact isTrue_or_nil e
  | true => exact e
theorem pw_and (ha : PT X a tA) (hb : PW X (.BoolOp .And (b :: rest) pos) tB') : PW X (.BoolOp .And (a :: b :: rest) pos) (tAnd tA tB') := by
  intro wh pins s σ H Q I h
  refine isTrue_and (thn (ha pins s σ H _ I h) fun c s1 ⟨H1, I1, q1⟩ => ?_)
  cases c with
  | true => exact hb wh pins s1 σ H1 Q I1 q1
  | false => exact ⟨H1, I1, q1⟩
theorem pw_or (ha : PT X a tA) (hb : PW X (.BoolOp .Or (b :: rest) pos) tB') : PW X (.BoolOp .Or (a :: b :: rest) pos) (tOr tA tB') := by
  intro wh pins s σ H Q I h
  refine isTrue_or (thn (ha pins s σ H _ I h) fun c s1 ⟨H1, I1, q1⟩ => ?_)
  cases c with
  | true => exact ⟨H1, I1, q1⟩
  | false => exact hb wh pins s1 σ H1 Q I1 q1
theorem pt_not (ha : PT X a tA) : PT X (.UnaryOp .Not a pos) (tNot tA) := by
  intro pins s σ H Q I h
  exact isTrue_not (ha pins s σ H (fun c H1 => Q (!c) H1) I h)
noncomputable def tOrV (ta tb : TE) : TE := fun σ H Q => ta σ H fun x H1 => ∃ c, x = .bl c ∧ if c = true then Q (.bl true) H1 else tb σ H1 Q
theorem pe_one {op} {t : TE} (h : PE X a t) : PE X (.BoolOp op [a] pos) t := fun pins s σ H Q I hw => BoolOp_one (h pins s σ H Q I hw)
theorem pe_or (ha : PE X a ta) (hb : PE X (.BoolOp .Or (b :: rest) pos) tb) : PE X (.BoolOp .Or (a :: b :: rest) pos) (tOrV ta tb) := by
  intro pins s σ H Q I h
  refine BoolOp_or (thn (ha pins s σ H _ I h) fun v s1 ⟨x, H1, I1, r1, q1⟩ => ?_)
  obtain ⟨c, rfl, q1⟩ := q1
  cases r1
  refine wpAny_truthy_bool ?_
  cases c with
  | false => exact hb pins s1 σ H1 Q I1 q1
  | true => exact ⟨.bl true, H1, I1, rfl, q1⟩
end
end L2
namespace L2
open PySem PySem.Spec PyProof.Rows
noncomputable def SqL (K : PySem.W.Frag) (H : Hp) (a : Addr) (xs : List V) : Prop :=
  Rd H a (.lst xs) ∨
    ∃ (o : Obj) (its : Array Value) (n : Nat), K.lookup a = some o ∧ o.cls = .type "list" ∧ o.dict = none ∧ o.data = .seq its n ∧ its.size ≤ sizeLine ∧ Vals xs its.toList
noncomputable def SqT (K : PySem.W.Frag) (H : Hp) (a : Addr) (xs : List V) : Prop :=
  Rd H a (.tup xs) ∨
    ∃ (o : Obj) (its : Array Value) (n : Nat), K.lookup a = some o ∧ o.cls = .type "tuple" ∧ o.data = .seq its n ∧ its.size ≤ sizeLine ∧ Vals xs its.toList
noncomputable def absV : Value → Option V
  | .none => some .non
  | .bool b => some (.bl b)
  | .int i _ => some (.int i)
  | .str x _ => some (.str x)
  | .bytes b _ => some (.byt b)
  | .float b _ => some (.flt b)
  | .ref a => some (.ref a)
  | .type n => some (.ty n)
  | _ => none
theorem RelV.abs {x : V} {u : Value} (r : RelV x u) : absV u = some x := by
  cases x with
  | non => cases r; rfl
  | bl _ => cases r; rfl
  | int _ => obtain ⟨t, rfl⟩ := r; rfl
  | str _ => obtain ⟨t, rfl⟩ := r; rfl
  | byt _ => obtain ⟨t, rfl⟩ := r; rfl
  | flt _ => obtain ⟨t, rfl⟩ := r; rfl
  | ref _ => cases r; rfl
  | ty _ => cases r; rfl
theorem RelV.inj {x y : V} {u : Value} (r : RelV x u) (q : RelV y u) : x = y := Option.some.inj (r.abs.symm.trans q.abs)
theorem Vals.inj : ∀ {xs ys : List V} {us : List Value}, Vals xs us → Vals ys us → xs = ys
  | _, _, _, .nil, .nil => rfl
  | _, _, _, .cons r t, .cons r' t' => by rw [r.inj r', Vals.inj t t']
section
variable {X : Cx} {pins : List (Addr × Obj)} {σ : St} {H : Hp} {s : Shared} {a : Addr} {xs ys : List V}
theorem SqL.of {K : PySem.W.Frag} (h : H a = some (.lst xs)) : SqL K H a xs := .inl (.inl h)
theorem SqT.of {K : PySem.W.Frag} (h : H a = some (.tup xs)) : SqT K H a xs := .inl (.inl h)
theorem Inv.list (I : Inv X pins σ H s) (h : SqL X.K H a xs) : ∃ its : List Value, Vals xs its ∧ PlainL s.heap a its.toArray ∧ xs.length ≤ sizeLine := by
  rcases h with h | ⟨o, its, n, hk, hc, hd, hs, hz, r⟩
  · obtain ⟨z, its, n, r, e⟩ := h.ok I.hok
    exact ⟨its, r, ⟨_, n, e, rfl, rfl, rfl⟩, z⟩
  · refine ⟨its.toList, r, ⟨o, n, I.kIn a o hk, hc, hd, by simpa using hs⟩, ?_⟩
    have e := r.length
    simp only [Array.length_toList] at e
    omega
theorem Inv.tuple (I : Inv X pins σ H s) (h : SqT X.K H a xs) : ∃ its : List Value, Vals xs its ∧ IsTup s.heap a its.toArray ∧ xs.length ≤ sizeLine := by
  rcases h with h | ⟨o, its, n, hk, hc, hs, hz, r⟩
  · obtain ⟨z, its, r, p⟩ := h.ok I.hok
    exact ⟨its, r, p.tup, z⟩
  · refine ⟨its.toList, r, ⟨o, I.kIn a o hk, hc, n, by simpa using hs⟩, ?_⟩
    have e := r.length
    simp only [Array.length_toList] at e
    omega
theorem Inv.list_inj (I : Inv X pins σ H s) (h : SqL X.K H a xs) (h' : SqL X.K H a ys) : xs = ys := by
  obtain ⟨its, r, ⟨o, n, e, _, _, d⟩, _⟩ := I.list h
  obtain ⟨its', r', ⟨o', n', e', _, _, d'⟩, _⟩ := I.list h'
  rw [e] at e'; cases e'
  rw [d] at d'
  injection d' with d1 _
  have : its = its' := by simpa using congrArg Array.toList d1
  subst this
  exact r.inj r'
theorem Inv.tuple_inj (I : Inv X pins σ H s) (h : SqT X.K H a xs) (h' : SqT X.K H a ys) : xs = ys := by
  obtain ⟨its, r, ⟨o, e, _, n, d⟩, _⟩ := I.tuple h
  obtain ⟨its', r', ⟨o', e', _, n', d'⟩, _⟩ := I.tuple h'
  rw [e] at e'; cases e'
  rw [d] at d'
  injection d' with d1 _
  have : its = its' := by simpa using congrArg Array.toList d1
  subst this
  exact r.inj r'
end
noncomputable abbrev Cx.wish (X : Cx) (E : Value → Shared → Prop) : Cx := { X with xe := E }
noncomputable abbrev Cx.nox (X : Cx) : Cx := X.wish fun _ _ => False
theorem Cx.Ok.wish {X : Cx} (ok : X.Ok) (E : Value → Shared → Prop) : (X.wish E).Ok :=
  ⟨ok.mod, ok.kind, ok.glob, ok.blt, ok.above, ok.inj, ok.has, ok.cab, ok.hd, ok.frames, ok.stk, ok.exf, ok.bs, ok.bsz, ok.noex, ok.exfs, ok.funs, ok.frf⟩
theorem Cx.Ok.unwish {X : Cx} {E : Value → Shared → Prop} (ok : (X.wish E).Ok) : X.Ok :=
  ⟨ok.mod, ok.kind, ok.glob, ok.blt, ok.above, ok.inj, ok.has, ok.cab, ok.hd, ok.frames, ok.stk, ok.exf, ok.bs, ok.bsz, ok.noex, ok.exfs, ok.funs, ok.frf⟩
section
variable {X : Cx} {pins : List (Addr × Obj)} {σ : St} {H : Hp} {s : Shared} {E : Value → Shared → Prop}
theorem Inv.wish (I : Inv X pins σ H s) (E : Value → Shared → Prop) : Inv (X.wish E) pins σ H s := ⟨I.ok.wish E, I.os, I.bare, I.base, I.loc, I.cell, I.free, I.freeC, I.pin, I.hok, I.len⟩
theorem Inv.unwish (I : Inv (X.wish E) pins σ H s) : Inv X pins σ H s := ⟨I.ok.unwish, I.os, I.bare, I.base, I.loc, I.cell, I.free, I.freeC, I.pin, I.hok, I.len⟩
theorem SP.unwish {D : Ends} {f : Flow} {s' : Shared} (h : SP (X.wish E) pins D f s') : SP X pins D f s' := by
  cases f with
  | next => obtain ⟨σ', H', I, q⟩ := h; exact ⟨σ', H', I.unwish, q⟩
  | brk => obtain ⟨σ', H', I, q⟩ := h; exact ⟨σ', H', I.unwish, q⟩
  | cont => obtain ⟨σ', H', I, q⟩ := h; exact ⟨σ', H', I.unwish, q⟩
  | ret u => obtain ⟨v, σ', H', I, r, q⟩ := h; exact ⟨v, σ', H', I.unwish, r, q⟩
theorem PSs.nox {st : List Stmt} {t : TS} (h : PSs X.nox st t) : PSs X st t := fun pins s σ H D I hw =>
  wpAny_mono (h pins s σ H D (I.wish _) hw) (fun _ _ q => q.unwish) fun _ _ z => False.elim z
end
section
variable {X : Cx} {st : Stmt} {rest : List Stmt} {t u : TS} {e : Expr} {te : TE} {pos : Pos}
noncomputable def tNext : TS := fun D σ H => D.nx σ H
noncomputable def tSeq (t u : TS) : TS := fun D σ H => t { D with nx := u D } σ H
theorem pss_nil : PSs X [] tNext := fun _ _ σ H _ I h => wpAny_execs_nil ⟨σ, H, I, h⟩
theorem pss_cons (h1 : PS X st t) (h2 : PSs X rest u) : PSs X (st :: rest) (tSeq t u) := by
  intro pins s σ H D I h
  refine wpAny_execs_cons (thn (h1 pins s σ H { D with nx := u D } I h) fun f s1 q => ?_)
  cases f with
  | next =>
    obtain ⟨σ', H', I', q⟩ := q
    exact h2 pins s1 σ' H' D I' q
  | ret v => exact q
  | brk => exact q
  | cont => exact q
theorem pss_one (h1 : PS X st t) : PSs X [st] t := by
  intro pins s σ H D I h
  refine wpAny_execs_cons (thn (h1 pins s σ H D I h) fun f s1 q => ?_)
  cases f with
  | next => exact wpAny_execs_nil q
  | ret v => exact q
  | brk => exact q
  | cont => exact q
theorem Inv.quiet {pins : List (Addr × Obj)} {σ : St} {H : Hp} {s : Shared} (I : Inv X pins σ H s) : interactive X.env = false := by simp [interactive, I.ok.kind]
noncomputable def tDrop (te : TE) : TS := fun D σ H => te σ H fun _ H1 => D.nx σ H1
theorem ps_expr (he : PE X e te) (hs : swapsWith e none pos.line X.env = pure false := by rfl) : PS X (.Expr e pos) (tDrop te) := by
  intro pins s σ H D I h
  exact wpAny_Expr_any (thn (he pins s σ H _ I h) fun v s1 ⟨x, H1, I1, r1, q1⟩ => ⟨σ, H1, I1, q1⟩) I.quiet hs
noncomputable def tRet (te : TE) : TS := fun D σ H => te σ H D.rt
theorem ps_ret (he : PE X e te) : PS X (.Return (some e) pos) (tRet te) := by
  intro pins s σ H D I h
  exact wpAny_Return_some (thn (he pins s σ H _ I h) fun v s1 ⟨x, H1, I1, r1, q1⟩ => ⟨x, σ, H1, I1, r1, q1⟩)
noncomputable def tIfS (c : TT) (t u : TS) : TS := fun D σ H => c σ H fun b H1 => if b = true then t D σ H1 else u D σ H1
theorem ps_if {c : Expr} {a b : List Stmt} {tc : TT} (hc : PT X c tc) (ha : PSs X a t) (hb : PSs X b u) : PS X (.If c a b pos) (tIfS tc t u) := by
  intro pins s σ H D I h
  refine wpAny_If (thn (hc pins s σ H _ I h) fun d s1 ⟨H1, I1, q1⟩ => ?_)
  cases d with
  | true => exact ha pins s1 σ H1 D I1 q1
  | false => exact hb pins s1 σ H1 D I1 q1
noncomputable def tNever : TS := fun _ _ _ => False
theorem ps_never : PS X st tNever := fun _ _ _ _ _ _ h => h.elim
end
noncomputable abbrev TG := V → St → Hp → (St → Hp → Prop) → Prop
noncomputable abbrev TGs := List V → St → Hp → (St → Hp → Prop) → Prop
noncomputable def PG (X : Cx) (target : Expr) (t : TG) : Prop :=
  ∀ (pins : List (Addr × Obj)) (s : Shared) (σ : St) (H : Hp) (v : V) (u : Value) (Q : St → Hp → Prop), Inv X pins σ H s → RelV v u → t v σ H Q →
    wpAny (model X.prog X.w) X.A (assign target X.env u) (fun _ s' => ∃ σ' H', Inv X pins σ' H' s' ∧ Q σ' H') X.xe s
noncomputable def PGs (X : Cx) (ts : List Expr) (t : TGs) : Prop :=
  ∀ (pins : List (Addr × Obj)) (s : Shared) (σ : St) (H : Hp) (vs : List V) (us : List Value) (Q : St → Hp → Prop), Inv X pins σ H s → Vals vs us → t vs σ H Q →
    wpAny (model X.prog X.w) X.A (assignInOrder ((assignEach ts X.env).map (·.2)) us) (fun _ s' => ∃ σ' H', Inv X pins σ' H' s' ∧ Q σ' H') X.xe s
noncomputable abbrev TSet := V → V → V → Hp → (Hp → Prop) → Prop
noncomputable def PSet (X : Cx) (t : TSet) : Prop :=
  ∀ (pins : List (Addr × Obj)) (s : Shared) (σ : St) (H : Hp) (o i v : V) (ov iv u : Value) (Q : Hp → Prop), Inv X pins σ H s → RelV o ov → RelV i iv → RelV v u → t o i v H Q →
    wpAny (model X.prog X.w) X.A (setItem ov iv u) (fun _ s' => ∃ H', Inv X pins σ H' s' ∧ Q H') X.xe s
noncomputable abbrev TIp := V → V → Hp → VK → Prop
noncomputable def PIp (X : Cx) (op : Operator) (t : TIp) : Prop :=
  ∀ (pins : List (Addr × Obj)) (s : Shared) (σ : St) (H : Hp) (x y : V) (v u : Value) (Q : VK), Inv X pins σ H s → RelV x v → RelV y u → t x y H Q →
    wpAny (model X.prog X.w) X.A (inplaceOp op v u) (EP X pins σ Q) X.xe s
section
variable {X : Cx} {pos : Pos}
noncomputable def gName (i : Nat) : TG := fun v σ H Q => Q (σ.set i (some v)) H
theorem pg_name {i : Nat} {x : Str} (hN : X.N.Nodup) (hi : X.N[i]? = some x) (hx : Loc X.env.scope x) (hf : X.fn x = true ∨ X.env.scope.names.lookup x = some .local := by first | exact .inl rfl | exact .inr rfl | assumption) : PG X (.Name x pos) (gName i) := by
  intro pins s σ H v u Q I r h
  exact wpAny_assign_Name (store_ok I hN hi hx r (fun s' I' => ⟨_, H, I', h⟩) hf)
noncomputable def gNil : TGs := fun vs σ H Q => vs = [] ∧ Q σ H
noncomputable def gCons (t : TG) (u : TGs) : TGs := fun vs σ H Q => ∃ v r, vs = v :: r ∧ t v σ H fun σ' H' => u r σ' H' Q
theorem pgs_nil : PGs X [] gNil := by
  intro pins s σ H vs us Q I r h
  obtain ⟨e, h⟩ := h
  subst e
  cases r
  exact assignInOrder_nil ⟨σ, H, I, h⟩
theorem pgs_cons {e : Expr} {es : List Expr} {t : TG} {u : TGs} (h1 : PG X e t) (h2 : PGs X es u)
    (hs : (assignEach (e :: es) X.env).map (·.2) = assign e X.env :: (assignEach es X.env).map (·.2) := by rfl) : PGs X (e :: es) (gCons t u) := by
  intro pins s σ H vs us Q I r h
  obtain ⟨v, vr, e1, h⟩ := h
  subst e1
  cases r with
  | cons r rr =>
    rw [hs]
    refine assignInOrder_cons (thn (h1 pins s σ H _ _ _ I r h) fun _ s1 ⟨σ1, H1, I1, q1⟩ => ?_)
    exact h2 pins s1 σ1 H1 _ _ Q I1 rr q1
noncomputable def gTup (K : PySem.W.Frag) (n : Nat) (t : TGs) : TG := fun v σ H Q => ∃ a xs, v = .ref a ∧ SqT K H a xs ∧ xs.length = n ∧ t xs σ H Q
theorem pg_tup {es : List Expr} {k : Nat} {t : TGs} {n : Nat} (hc : X.calm = true) (h : PGs X es t)
    (hn : (assignEach es X.env).length = n := by rfl) (hst : (assignEach es X.env).findIdx? (·.1) = none := by rfl) : PG X (.Tuple es k pos) (gTup X.K n t) := by
  intro pins s σ H v u Q I r hw
  obtain ⟨a, xs, e1, hq, hl, hw⟩ := hw
  subst e1
  cases r
  obtain ⟨its, rv, ht, hz⟩ := I.tuple hq
  refine assign_Tuple_tuple (I.ok.hd hc) ht (by simp [hn, ← hl, rv.length]) hst fun h' hx => ?_
  have I1 : Inv X pins σ H { s with heap := h' } := I.kept (t' := s.toks) fun b o e => hx b o (Nat.ne_of_lt (Heap.lt_size e)) e
  exact h pins _ σ H xs _ Q I1 (by simpa using rv) hw
noncomputable def gSub (to ti : TE) (t : TSet) : TG := fun v σ H Q => to σ H fun o H1 => ti σ H1 fun i H2 => t o i v H2 fun H3 => Q σ H3
theorem pg_sub {o i : Expr} {to ti : TE} {t : TSet} (ho : PE X o to) (hi : PE X i ti) (hs : PSet X t)
    (ha : ∀ v, assign (.Subscript o i pos) X.env v = (do
      let ov ← holding [v] (eval o X.env)
      let iv ← holding [v, ov] (eval i X.env)
      standAt pos
      holding [v, ov, iv] (setItem ov iv v)
      release [v, ov, iv] []) := by intro _; rfl) : PG X (.Subscript o i pos) (gSub to ti t) := by
  intro pins s σ H v u Q I r h
  rw [ha]
  refine wpAny_bind (wpAny_holding (thn (ho pins s σ H _ I h) fun ov s1 ⟨x, H1, I1, r1, q1⟩ => ?_))
  refine wpAny_bind (wpAny_holding (thn (hi pins s1 σ H1 _ I1 q1) fun iv s2 ⟨y, H2, I2, r2, q2⟩ => ?_))
  refine wpAny_bind (wpAny_standAt (wpAny_bind (wpAny_holding (thn (hs pins s2 σ H2 x y v ov iv u _ I2 r1 r2 r q2) fun _ s3 ⟨H3, I3, q3⟩ => ?_))))
  exact wpAny_release ⟨σ, H3, I3, q3⟩
noncomputable def tAsg (te : TE) (g : TG) : TS := fun D σ H => te σ H fun x H1 => g x σ H1 D.nx
theorem ps_asg {tg e : Expr} {te : TE} {g : TG} (he : PE X e te) (hg : PG X tg g) (hs : swapsWithSole [tg] e pos.line X.env = pure false := by rfl) (hw : swappedStores [tg] e X.env = pure none := by rfl)
    (h1 : (assignEach [tg] X.env).map (·.2) = [assign tg X.env] := by rfl) : PS X (.Assign [tg] e pos) (tAsg te g) := by
  intro pins s σ H D I h
  refine wpAny_Assign_stores (thn (he pins s σ H _ I h) fun v s1 ⟨x, H1, I1, r1, q1⟩ => ?_) hs hw
  rw [h1]
  exact thn (hg pins s1 σ H1 x v _ I1 r1 q1) fun _ s2 q => q
theorem ps_set {i : Nat} {x : Str} {e : Expr} {te : TE} {pos' : Pos} (hN : X.N.Nodup) (hi : X.N[i]? = some x) (hx : Loc X.env.scope x) (he : PE X e te) (hs : swapsWith e (some (.Name x pos')) pos.line X.env = pure false := by rfl) (hf : X.fn x = true ∨ X.env.scope.names.lookup x = some .local := by first | exact .inl rfl | exact .inr rfl | assumption) :
    PS X (.Assign [.Name x pos'] e pos) (tAsg te (gName i)) := by
  intro pins s σ H D I h
  refine wpAny_Assign_Name (thn (he pins s σ H _ I h) fun v s1 ⟨y, H1, I1, r1, q1⟩ => ?_) hs
  exact store_ok I1 hN hi hx r1 (fun s2 I2 => ⟨_, H1, I2, q1⟩) hf
noncomputable def tPar (i j : Nat) (ta : TA) : TS := fun D σ H => ta σ H fun vs H1 => ∃ v w, vs = [v, w] ∧ D.nx ((σ.set i (some v)).set j (some w)) H1
theorem ps_par {i j : Nat} {x y : Str} {a b : Expr} {ta : TA} {px py pt : Pos} {kt k2 pt2} (hc : X.calm = true) (hN : X.N.Nodup) (hi : X.N[i]? = some x) (hj : X.N[j]? = some y) (hij : i ≠ j)
    (hx : X.env.scope.names.lookup x = some .local) (hy : X.env.scope.names.lookup y = some .local) (ha : PA X [a, b] ta)
    (hw : swappedStores [.Tuple [.Name x px, .Name y py] kt pt] (.Tuple [a, b] k2 pt2) X.env = pure (some [x, y]))
    (hs : swapsWithSole [.Tuple [.Name x px, .Name y py] kt pt] (.Tuple [a, b] k2 pt2) pos.line X.env = pure false := by rfl) :
    PS X (.Assign [.Tuple [.Name x px, .Name y py] kt pt] (.Tuple [a, b] k2 pt2) pos) (tPar i j ta) := by
  intro pins s σ H D I h
  rw [exec_Assign_arm]
  refine wpAny_bind (wpAny_standAt ?_)
  rw [hs]
  refine wpAny_bind (wpAny_pure ?_)
  rw [if_neg (by decide)]
  refine wpAny_bind (Tuple_ (thn (ha _ pins s σ H _ I h) fun us s1 ⟨vs, H1, I1, r1, q1⟩ => ?_))
  obtain ⟨v, w, e1, q1⟩ := q1
  subst e1
  obtain ⟨u1, u2, rfl, rv, rw'⟩ : ∃ u1 u2, us = [u1, u2] ∧ RelV v u1 ∧ RelV w u2 := by
    cases r1 with
    | cons p q =>
      cases q with
      | cons p' q' =>
        cases q'
        exact ⟨_, _, rfl, p, p'⟩
  refine wpAny_newObj_type ?_ (by show 2 ≤ sizeLine; decide)
  have I2 : Inv X pins σ H1 { s1 with heap := s1.heap.push { cls := .type "tuple", data := .seq [u1, u2].toArray } } := I1.kept (t' := s1.toks) fun b o e => Heap.get?_push_of_some _ e
  rw [hw]
  refine wpAny_bind (wpAny_pure ?_)
  show wpAny (model X.prog X.w) X.A (do rule "assign.swapped-stores"; let items ← unpackItems (.ref s1.heap.objs.size) 2 none; assignInOrder [fun v => bindName X.env y v, fun v => bindName X.env x v] items.reverse; pure Flow.next) _ _ _
  refine wpAny_bind (wpAny_rule (wpAny_bind (unpackItems_tuple (items := #[u1, u2]) (I.ok.hd hc) (IsTup.new s1.heap _) fun h' hx' => ?_)))
  have I3 := I2.kept (h' := h') (t' := s1.toks) fun b o e => hx' b o (Nat.ne_of_lt (Heap.lt_size e)) e
  show wpAny _ _ (assignInOrder [fun v => bindName X.env y v, fun v => bindName X.env x v] [u2, u1] >>= fun _ => pure Flow.next) _ _ _
  refine wpAny_bind (assignInOrder_cons (wpAny_bindName (store_ok I3 hN hj (.inl hy) rw' (fun s2 I4 => ?_) (.inr hy))))
  refine assignInOrder_cons (wpAny_bindName (store_ok I4 hN hi (.inl hx) rv (fun s3 I5 => assignInOrder_nil (wpAny_pure ?_)) (.inr hx)))
  rw [List.set_comm _ _ (Ne.symm hij)] at I5
  exact ⟨_, H1, I5, q1⟩
noncomputable def tAug (i : Nat) (te : TE) (ti : TIp) : TS := fun D σ H => ∃ x, σ[i]? = some (some x) ∧ te σ H fun y H1 => ti x y H1 fun z H2 => D.nx (σ.set i (some z)) H2
theorem ps_aug {i : Nat} {x : Str} {e : Expr} {te : TE} {op : Operator} {ti : TIp} {pos' : Pos} (hN : X.N.Nodup) (hi : X.N[i]? = some x) (hx : Loc X.env.scope x) (he : PE X e te) (ho : PIp X op ti) (hf : X.fn x = true ∨ X.env.scope.names.lookup x = some .local := by first | exact .inl rfl | exact .inr rfl | assumption) :
    PS X (.AugAssign (.Name x pos') op e pos) (tAug i te ti) := by
  intro pins s σ H D I h
  obtain ⟨v, e1, h⟩ := h
  obtain ⟨m, hn, hl⟩ := I.loc
  have vis : Vis X.env.scope x := by rcases hx with k | k; exact .inl k; exact .inr (.inl k)
  obtain ⟨u, r, l⟩ := hl i x v hi e1 vis
  refine wpAny_AugAssign_Name ?_
  have go : wpAny (model X.prog X.w) X.A (eval e X.env) (fun w s₂ => wpAny (model X.prog X.w) X.A (inplaceOp op u w) (fun r s₃ => wpAny (model X.prog X.w) X.A (storeName X.env x r) (fun _ => SP X pins D .next) X.xe s₃) X.xe s₂) X.xe s := by
    refine thn (he pins s σ H _ I h) fun w s1 ⟨y, H1, I1, r1, q1⟩ => ?_
    refine thn (ho pins s1 σ H1 v y u w _ I1 r r1 q1) fun z s2 ⟨zv, H2, I2, r2, q2⟩ => ?_
    exact store_ok I2 hN hi hx r2 (fun s3 I3 => ⟨_, H2, I3, q2⟩) hf
  rcases l with ⟨hk, hm⟩ | ⟨hk, c, hc, hcell⟩
  · exact wpAny_loadName_local I.ok.kind hk hn hm go
  · rcases hk with hk | hk
    · exact wpAny_loadName_cell I.ok.kind hk hc hcell go
    · rcases hx with k | k
      · have : X.env.scope.names.lookup x = some .free := hk
        rw [k] at this; cases this
      · have : X.env.scope.names.lookup x = some .free := hk
        rw [k] at this; cases this
noncomputable def tAugS (to ti te : TE) (tget : V → V → Hp → VK → Prop) (tip : TIp) (tset : TSet) : TS := fun D σ H => to σ H fun o H1 => ti σ H1 fun i H2 => tget o i H2 fun x H3 => te σ H3 fun y H4 => tip x y H4 fun z H5 => tset o i z H5 fun H6 => D.nx σ H6
noncomputable def PGet (X : Cx) (t : V → V → Hp → VK → Prop) : Prop :=
  ∀ (pins : List (Addr × Obj)) (s : Shared) (σ : St) (H : Hp) (o i : V) (ov iv : Value) (Q : VK), Inv X pins σ H s → RelV o ov → RelV i iv → t o i H Q →
    wpAny (model X.prog X.w) X.A (getItem ov iv) (EP X pins σ Q) X.xe s
theorem ps_augS {o i e : Expr} {to ti te : TE} {tget : V → V → Hp → VK → Prop} {tip : TIp} {tset : TSet} {op : Operator} {tpos : Pos} (ho : PE X o to) (hi : PE X i ti) (hg : PGet X tget) (he : PE X e te) (hp : PIp X op tip) (hs : PSet X tset)
    (ha : ∀ ov iv new, augStore i ov iv new = (do holding [new, ov, iv] (setItem ov iv new); release [new, ov, iv] []; pure .next) := by intros; rfl) : PS X (.AugAssign (.Subscript o i tpos) op e pos) (tAugS to ti te tget tip tset) := by
  intro pins s σ H D I h
  refine wpAny_AugAssign_SubscriptAny (thn (ho pins s σ H _ I h) fun ov s1 ⟨x1, H1, I1, r1, q1⟩ => ?_) ha
  refine thn (hi pins s1 σ H1 _ I1 q1) fun iv s2 ⟨x2, H2, I2, r2, q2⟩ => ?_
  refine thn (hg pins s2 σ H2 x1 x2 ov iv _ I2 r1 r2 q2) fun old s3 ⟨x3, H3, I3, r3, q3⟩ => ?_
  refine thn (he pins s3 σ H3 _ I3 q3) fun v s4 ⟨x4, H4, I4, r4, q4⟩ => ?_
  refine thn (hp pins s4 σ H4 x3 x4 old v _ I4 r3 r4 q4) fun new s5 ⟨x5, H5, I5, r5, q5⟩ => ?_
  exact thn (hs pins s5 σ H5 x1 x2 x5 ov iv new _ I5 r1 r2 r5 q5) fun _ s6 ⟨H6, I6, q6⟩ => ⟨σ, H6, I6, q6⟩
noncomputable def ipI (f : Int → Int → Int) : TIp := fun x y H Q => ∃ i j, x = .int i ∧ y = .int j ∧ Q (.int (f i j)) H
theorem ip_add : PIp X .Add (ipI fun i j => i + j) := by
  intro pins s σ H x y v u Q I r1 r2 h
  obtain ⟨i, j, e1, e2, q⟩ := h
  subst e1; subst e2
  obtain ⟨t, rfl⟩ := r1
  obtain ⟨t', rfl⟩ := r2
  exact iadd_int ⟨.int _, H, I.tok _, ⟨_, rfl⟩, q⟩
end
section
variable {X : Cx} {pos : Pos}
noncomputable def tWhile (c : TT) (tb : TS) : TS := fun D σ H => ∃ W : Nat → St → Hp → Prop, (∃ m, W m σ H) ∧ ∀ m σ H, W m σ H →
  c σ H fun b H1 => if b = true then ∃ N : St → Hp → Prop, (∀ σ' H', N σ' H' → ∃ m', m' < m ∧ W m' σ' H') ∧ tb { D with nx := N, ct := N, bk := D.nx } σ H1 else D.nx σ H1
theorem ps_while {c : Expr} {body : List Stmt} {tc : TT} {tb : TS} (hp : PassesOwn (model X.prog X.w) X.A X.env X.xe) (hc : PT X c tc) (hb : PSs X body tb) : PS X (.While c body [] pos) (tWhile tc tb) := by
  intro pins s σ H D I h
  obtain ⟨W, ⟨m0, w0⟩, turn⟩ := h
  refine wpAny_While (codeAny_whileLoop (fun n s' => ∃ σ' H', Inv X pins σ' H' s' ∧ W n σ' H') ?_ m0 ⟨σ, H, I, w0⟩)
  rintro n s1 ⟨σ1, H1, I1, w1⟩
  refine wpAny_passesOwn hp (thn (hc pins s1 σ1 H1 _ I1 (turn n σ1 H1 w1)) fun b s2 ⟨H2, I2, q2⟩ => ?_)
  cases b with
  | true =>
    obtain ⟨N, hN, q2⟩ := q2
    rw [if_pos rfl]
    refine wpAny_passesOwn hp (thn (hb pins s2 σ1 H2 _ I2 q2) fun f s3 q3 => ?_)
    cases f with
    | next =>
      obtain ⟨σ3, H3, I3, n3⟩ := q3
      obtain ⟨m', hm, w3⟩ := hN σ3 H3 n3
      exact ⟨m', hm, σ3, H3, I3, w3⟩
    | cont =>
      obtain ⟨σ3, H3, I3, n3⟩ := q3
      obtain ⟨m', hm, w3⟩ := hN σ3 H3 n3
      exact ⟨m', hm, σ3, H3, I3, w3⟩
    | brk => exact q3
    | ret v => exact q3
  | false =>
    rw [if_neg Bool.false_ne_true]
    exact wpAny_execs_nil ⟨σ1, H2, I2, q2⟩
end
structure It where
  go : Nat → Hp → Prop
  yld : Nat → Hp → V → Hp → Prop
  stop : Nat → Hp → Prop
noncomputable def FpOk (X : Cx) (pins : List (Addr × Obj)) (H : Hp) (b : Addr) : Prop :=
  H b = none ∧ b ≠ X.env.locals ∧ b ∉ X.fs ∧ (b ∈ X.ex ∨ X.s₀.heap.objs.size ≤ b) ∧ (∀ x c, X.env.cells.lookup x = some c → c ≠ b) ∧ ∀ p ∈ X.pn ++ pins, p.1 ≠ b
theorem Inv.fpOk {X : Cx} {pins : List (Addr × Obj)} {σ : St} {H H' : Hp} {s : Shared} {b : Addr} (I : Inv X pins σ H s) (hb : s.heap.objs.size ≤ b) (hn : H' b = none) : FpOk X pins H' b := by
  refine ⟨hn, Nat.ne_of_gt (Nat.lt_of_lt_of_le I.lt hb), I.nofs hb, .inr (Nat.le_trans I.sz hb), fun x c e z => ?_, fun p hp z => ?_⟩
  · obtain ⟨v, q⟩ := I.cell x c e
    exact absurd (Nat.lt_of_lt_of_le q.lt (by rw [z]; exact hb)) (Nat.lt_irrefl _)
  · exact absurd (Nat.lt_of_lt_of_le (Heap.lt_size (I.pin p hp).1) (by rw [z]; exact hb)) (Nat.lt_irrefl _)
structure Turn (P : Program) (w : World) (K : PySem.W.Frag) (tg : Expr) (J : It) (fp : List Addr) (it : Addr) (tn : Nat → Heap → Prop) : Prop where
  mem : it ∈ fp
  obj : ∀ i h, tn i h → ∀ b ∈ fp, ∃ o, h.get? b = some o ∧ ∀ v, o.data ≠ .cell v
  keep : ∀ i h h', tn i h → (∀ b ∈ fp, ∀ o, h.get? b = some o → h'.get? b = some o) → tn i h'
  item : ∀ (X : Cx), X.prog = P → X.w = w → X.K = K → X.calm = true → ∀ (i : Nat) (pins : List (Addr × Obj)) (s : Shared) (σ : St) (H : Hp) (E : Value → Shared → Prop), Inv X pins σ H s → (∀ b ∈ fp, FpOk X pins H b) → tn i s.heap → J.go i H →
    wpAny (model P w) X.A (pyNext (.ref it)) (fun r s1 => ∃ u, r = some u ∧
      wpAny (model P w) X.A (letOwnedTupleGo tg (.ref it) u) (fun _ s2 => ∃ x H', Inv X pins σ H' s2 ∧ RelV x u ∧ J.yld i H x H' ∧ tn (i + 1) s2.heap ∧ ∀ b ∈ fp, H' b = none) E s1) E s
  done : ∀ (X : Cx), X.prog = P → X.w = w → X.K = K → X.calm = true → ∀ (i : Nat) (pins : List (Addr × Obj)) (s : Shared) (σ : St) (H : Hp) (E : Value → Shared → Prop), Inv X pins σ H s → (∀ b ∈ fp, FpOk X pins H b) → tn i s.heap → J.stop i H →
    wpAny (model P w) X.A (pyNext (.ref it)) (fun r s1 => r = none ∧ Inv X pins σ H s1) E s
  self : ∀ (A : Around) (i : Nat) (s : Shared) (Q : Value → Shared → Prop) (E : Value → Shared → Prop), tn i s.heap → Q (.ref it) s → wpAny (model P w) A (pyIter (.ref it)) Q E s
noncomputable abbrev TI := St → Hp → (It → Hp → Prop) → Prop
noncomputable def PIE (X : Cx) (pins : List (Addr × Obj)) (σ : St) (tg : Expr) (R : It → Hp → Prop) (itv : Value) (s2 : Shared) : Prop :=
  ∃ (it : Addr) (fp : List Addr) (tn : Nat → Heap → Prop) (J : It) (H' : Hp), itv = .ref it ∧ Inv X pins σ H' s2 ∧ Turn X.prog X.w X.K tg J fp it tn ∧ tn 0 s2.heap ∧ (∀ b ∈ fp, FpOk X pins H' b) ∧ R J H'
noncomputable def PI (X : Cx) (tg iter : Expr) (wi : TI) : Prop :=
  ∀ (pins : List (Addr × Obj)) (s : Shared) (σ : St) (H : Hp) (R : It → Hp → Prop), Inv X pins σ H s → wi σ H R →
    wpAny (model X.prog X.w) X.A (eval iter X.env) (fun v s1 => wpAny (model X.prog X.w) X.A (pyIter v) (PIE X pins σ tg R) X.xe s1) X.xe s
theorem go_of {M : Model} {A : Around} {E : Value → Shared → Prop} {s : Shared} {tg : Expr} {it : Addr} {u : Value} {o : Obj} {n : String} {vs : Array Value} {Q : Unit → Shared → Prop} (ho : s.heap.get? it = some o) (hc : o.cls = .type n) (hd : o.data = .fields vs)
    (hn : ["enumerate", "zip", "dict_itemiterator", "dict_reverseitemiterator", "odict_iterator", "itertools.zip_longest", "itertools.pairwise"].contains n = false) (hQ : Q () s) : wpAny M A (letOwnedTupleGo tg (.ref it) u) Q E s := by
  unfold letOwnedTupleGo
  cases tg <;> first
    | exact wpAny_pure hQ
    | (cases u <;> first
        | exact wpAny_pure hQ
        | (refine wpAny_bind (wpAny_load ho ?_)
           rw [hc, hd]
           show wpAny M A (if (["enumerate", "zip", "dict_itemiterator", "dict_reverseitemiterator", "odict_iterator", "itertools.zip_longest", "itertools.pairwise"].contains n && vs[0]? == some (rawInt _)) = true then _ else _) Q E s
           rw [if_neg (by intro h; rw [hn, Bool.false_and] at h; cases h)]
           exact wpAny_pure hQ))
noncomputable def Itl (K : PySem.W.Frag) (a : Addr) : It :=
  ⟨fun i H => ∃ xs x, SqL K H a xs ∧ xs[i]? = some x, fun i H x H' => H' = H ∧ ∀ xs, SqL K H a xs → xs[i]? = some x, fun i H => ∃ xs, SqL K H a xs ∧ xs.length ≤ i⟩
noncomputable def Itr (lo : Int) (n : Nat) : It := ⟨fun i _ => i < n, fun i H x H' => H' = H ∧ x = .int (lo + i), fun i _ => n ≤ i⟩
theorem turn_list {P : Program} {w : World} {K : PySem.W.Frag} {tg : Expr} (a it : Addr) : Turn P w K tg (Itl K a) [it] it (fun i h => h.IsListIter it a i) where
  mem := by simp
  obj := fun i h st b hb => by
    have e : b = it := by simpa using hb
    subst e
    obtain ⟨o, e, c, d⟩ := st
    exact ⟨o, e, fun v z => by rw [d] at z; cases z⟩
  keep := fun i h h' st k => st.at fun o e => k it (by simp) o e
  item := by
    intro X hP hw hK hc i pins s σ H E I hf st hg
    subst hP hw hK
    obtain ⟨xs, x, hq, hx⟩ := hg
    obtain ⟨its, rv, p, hz⟩ := I.list hq
    obtain ⟨u, hu, ru⟩ := rv.get hx
    obtain ⟨f0, f1, f2, f3, f4, f5⟩ := hf it (by simp)
    refine wpAny_pyNext_list_item st p.isList (x := u) (by simpa using hu) fun h' st' sb => ?_
    have I1 : Inv X pins σ H { s with heap := h' } := I.turned (t' := s.toks) (fun b o hb e => (sb.2 b hb).trans e) f0 f1 f3 f4 f5
    obtain ⟨o, e, c, d⟩ := id st'
    exact ⟨u, rfl, go_of (s := { s with heap := h' }) e c d (by decide) ⟨x, H, I1, ru, ⟨rfl, fun ys hy => by rw [I.list_inj hy hq]; exact hx⟩, st', fun b hb => (hf b hb).1⟩⟩
  done := by
    intro X hP hw hK hc i pins s σ H E I hf st hg
    subst hP hw hK
    obtain ⟨xs, hq, hx⟩ := hg
    obtain ⟨its, rv, p, hz⟩ := I.list hq
    obtain ⟨f0, f1, f2, f3, f4, f5⟩ := hf it (by simp)
    have hl := rv.length
    exact wpAny_pyNext_list_end (I.ok.hd hc) st p.isList (by simp; omega) fun h' eb => ⟨rfl, I.turned (t' := s.toks) (fun b o hb e => eb b o hb e) f0 f1 f3 f4 f5⟩
  self := fun _ _ _ _ _ st h => wpAny_pyIter_listiter st h
theorem turn_range {P : Program} {w : World} {K : PySem.W.Frag} {tg : Expr} (it : Addr) (lo : Int) (n : Nat) : Turn P w K tg (Itr lo n) [it] it (fun i h => IsRangeIter h it (lo + (i : Nat) * 1) ((n : Int) - (i : Nat)) 1) where
  mem := by simp
  obj := fun i h st b hb => by
    have e : b = it := by simpa using hb
    subst e
    exact ⟨_, st, fun v z => by
      have z' : Data.fields _ = Data.cell v := z
      cases z'⟩
  keep := fun i h h' st k => k it (by simp) _ st
  item := by
    intro X hP hw hK hc i pins s σ H E I hf st hg
    subst hP hw hK
    obtain ⟨f0, f1, f2, f3, f4, f5⟩ := hf it (by simp)
    have W := Walks.range (prog := X.prog) (w := X.w) (I.ok.hd hc) it lo 1 n
    refine W.item i s _ _ hg st fun v h' tk hv st' kk => ?_
    obtain ⟨t, rfl⟩ := hv
    have I1 : Inv X pins σ H { s with heap := h', toks := tk } := I.turned (fun b o hb e => kk b o (by simpa using hb) e) f0 f1 f3 f4 f5
    refine ⟨_, rfl, go_of (s := { s with heap := h', toks := tk }) (n := "range_iterator") st' rfl rfl (by decide) ⟨.int (lo + i), H, I1, ⟨t, ?_⟩, ⟨rfl, rfl⟩, st', fun b hb => (hf b hb).1⟩⟩
    rw [Int.mul_one]
  done := by
    intro X hP hw hK hc i pins s σ H E I hf st hg
    subst hP hw hK
    obtain ⟨f0, f1, f2, f3, f4, f5⟩ := hf it (by simp)
    exact wpAny_pyNext_range_end (I.ok.hd hc) st (by have : n ≤ i := hg; omega) fun h' eb => ⟨rfl, I.turned (t' := s.toks) (fun b o hb e => eb b o hb e) f0 f1 f3 f4 f5⟩
  self := fun _ _ _ _ _ st h => wpAny_pyIter_rangeiter st h
end L2
namespace L2
open PySem PySem.Spec PyProof.Rows
section
variable {X : Cx} {tg : Expr}
noncomputable def iList (K : PySem.W.Frag) (tl : TE) : TI := fun σ H R => tl σ H fun x H1 => ∃ a, x = .ref a ∧ (∃ xs, SqL K H1 a xs) ∧ R (Itl K a) H1
theorem pi_list {l : Expr} {tl : TE} (hl : PE X l tl) : PI X tg l (iList X.K tl) := by
  intro pins s σ H R I h
  refine thn (hl pins s σ H _ I h) fun v s1 ⟨x, H1, I1, r1, q1⟩ => ?_
  obtain ⟨a, e, ⟨xs, hq⟩, q⟩ := q1
  subst e
  cases r1
  obtain ⟨its, rv, p, hz⟩ := I1.list hq
  refine wpAny_pyIter_list p.isList ?_
  refine ⟨s1.heap.objs.size, [s1.heap.objs.size], _, _, H1, rfl, I1.kept (t' := s1.toks) fun b o e => Heap.get?_push_of_some _ e, turn_list a _, ⟨_, Heap.get?_push_size _ rfl, rfl, rfl⟩, fun b hb => ?_, q⟩
  have e : b = s1.heap.objs.size := by simpa using hb
  subst e
  exact I1.fpOk (Nat.le_refl _) (I1.hok.fresh (Nat.le_refl _))
theorem range_it {pins : List (Addr × Obj)} {σ : St} {H : Hp} {s : Shared} {R : It → Hp → Prop} {E : Value → Shared → Prop} {lo hi : Int} {t u v : Tok} {tk : Nat} (I : Inv X pins σ H s) (h1 : -(2 ^ 62) ≤ lo) (h2 : lo < 2 ^ 62) (h3 : -(2 ^ 62) ≤ hi) (h4 : hi < 2 ^ 62)
    (q : R (Itr lo (hi - lo).toNat) H) : wpAny (model X.prog X.w) X.A (pyIter (.ref s.heap.objs.size)) (PIE X pins σ tg R) E { s with heap := s.heap.push { cls := .type "range", data := .fields #[.int lo t, .int hi u, .int 1 v] }, toks := tk } := by
  refine wpAny_pyIter_range (IsRange.new ..) (small_one h1 h2 h3 h4) ?_
  have I1 : Inv X pins σ H { s with heap := s.heap.push { cls := .type "range", data := .fields #[.int lo t, .int hi u, .int 1 v] }, toks := tk } := I.kept fun b o e => Heap.get?_push_of_some _ e
  refine ⟨(s.heap.push { cls := .type "range", data := .fields #[.int lo t, .int hi u, .int 1 v] }).objs.size, [(s.heap.push { cls := .type "range", data := .fields #[.int lo t, .int hi u, .int 1 v] }).objs.size], _, _, H, rfl,
    I1.kept (t' := tk) fun b o e => Heap.get?_push_of_some _ e, turn_range _ lo (hi - lo).toNat, ?_, fun b hb => ?_, q⟩
  · have e1 : lo + ((0 : Nat) : Int) * 1 = lo := by simp
    have e2 : (((hi - lo).toNat : Nat) : Int) - ((0 : Nat) : Int) = Builtin.Range.rangeSize lo hi 1 := by rw [rangeSize_one]; split <;> omega
    show IsRangeIter _ _ (lo + ((0 : Nat) : Int) * 1) ((((hi - lo).toNat : Nat) : Int) - ((0 : Nat) : Int)) 1
    rw [e1, e2]
    exact Heap.get?_push_size _ rfl
  · have e : b = (s.heap.push { cls := .type "range", data := .fields #[.int lo t, .int hi u, .int 1 v] }).objs.size := by simpa using hb
    subst e
    exact I1.fpOk (Nat.le_refl _) (I1.hok.fresh (Nat.le_refl _))
noncomputable def iRng1 (ta : TA) : TI := fun σ H R => ta σ H fun vs H1 => ∃ j : Int, vs = [.int j] ∧ -(2 ^ 62) ≤ j ∧ j < 2 ^ 62 ∧ R (Itr 0 j.toNat) H1
noncomputable def iRng2 (ta : TA) : TI := fun σ H R => ta σ H fun vs H1 => ∃ i j : Int, vs = [.int i, .int j] ∧ (-(2 ^ 62) ≤ i ∧ i < 2 ^ 62 ∧ -(2 ^ 62) ≤ j ∧ j < 2 ^ 62) ∧ R (Itr i (j - i).toNat) H1
theorem pi_range1 {a : Expr} {ta : TA} {p pos : Pos} (hg : Gl X "range") (hm : X.mg "range" = none) (ha : PA X [a] ta) (hs : starEach [a] X.env = [(false, eval a X.env)] := by rfl) : PI X tg (.Call (.Name "range" p) [a] [] pos) (iRng1 ta) := by
  intro pins s σ H R I h
  refine Call_ (ld_blt I hg hm boot_range (PyProof.Rows.callWith_type1 (thn (ha pos pins s σ H _ I h) fun us s1 ⟨vs, H1, I1, r1, q1⟩ => ?_) hs rfl))
  obtain ⟨j, e, q1, q2, q⟩ := q1
  subst e
  cases r1 with
  | cons r rr =>
    cases rr
    obtain ⟨t, rfl⟩ := r
    exact call_range_1 (range_it I1 (by omega) (by omega) q1 q2 (by simpa using q))
theorem pi_range2 {a b : Expr} {ta : TA} {p pos : Pos} (hg : Gl X "range") (hm : X.mg "range" = none) (ha : PA X [a, b] ta) (hs : starEach [a, b] X.env = [(false, eval a X.env), (false, eval b X.env)] := by rfl) (hs2 : starEach [b] X.env = [(false, eval b X.env)] := by rfl) :
    PI X tg (.Call (.Name "range" p) [a, b] [] pos) (iRng2 ta) := by
  intro pins s σ H R I h
  refine Call_ (ld_blt I hg hm boot_range (PyProof.Rows.callWith_type1 (thn (ha pos pins s σ H _ I h) fun us s1 ⟨vs, H1, I1, r1, q1⟩ => ?_) (by rw [hs, hs2]) (by rw [hs2]; rfl)))
  obtain ⟨i, j, e, ⟨q1, q2, q3, q4⟩, q⟩ := q1
  subst e
  cases r1 with
  | cons r rr =>
    cases rr with
    | cons r' rr =>
      cases rr
      obtain ⟨t, rfl⟩ := r
      obtain ⟨t', rfl⟩ := r'
      exact call_range_2 (range_it I1 q1 q2 q3 q4 q)
noncomputable def tFor (wi : TI) (g : TG) (tb : TS) : TS := fun D σ H => wi σ H fun J H1 => ∃ W : Nat → Nat → St → Hp → Prop, (∃ m, W 0 m σ H1) ∧ ∀ i m σ H, W i m σ H →
  (J.stop i H ∧ D.nx σ H) ∨ (J.go i H ∧ ∃ N : St → Hp → Prop, (∀ σ' H', N σ' H' → ∃ m', m' < m ∧ W (i + 1) m' σ' H') ∧ ∀ x H', J.yld i H x H' → g x σ H' fun σ2 H2 => tb { D with nx := N, ct := N, bk := D.nx } σ2 H2)
noncomputable def pinsAt (fp : List Addr) (h : Heap) : List (Addr × Obj) := fp.filterMap fun b => (h.get? b).map fun o => (b, o)
theorem mem_pinsAt {fp : List Addr} {h : Heap} {b : Addr} {o : Obj} (hb : b ∈ fp) (e : h.get? b = some o) : (b, o) ∈ pinsAt fp h := List.mem_filterMap.mpr ⟨b, hb, by rw [e]; rfl⟩
theorem of_pinsAt {fp : List Addr} {h : Heap} {p : Addr × Obj} (hp : p ∈ pinsAt fp h) : p.1 ∈ fp ∧ h.get? p.1 = some p.2 := by
  obtain ⟨b, hb, e⟩ := List.mem_filterMap.mp hp
  cases q : h.get? b with
  | none => rw [q] at e; cases e
  | some o =>
    rw [q] at e
    have e' : (b, o) = p := Option.some.inj e
    subst e'
    exact ⟨hb, q⟩
theorem Inv.pinned {pins : List (Addr × Obj)} {σ : St} {H : Hp} {s : Shared} {fp : List Addr} (I : Inv X pins σ H s) (hf : ∀ b ∈ fp, FpOk X pins H b) (ho : ∀ b ∈ fp, ∃ o, s.heap.get? b = some o ∧ ∀ v, o.data ≠ .cell v) : Inv X (pins ++ pinsAt fp s.heap) σ H s :=
  I.pins_of fun p hp => (List.mem_append.mp hp).elim (fun z => I.pin p (List.mem_append_right _ z)) fun z => by
    obtain ⟨hb, e⟩ := of_pinsAt z
    obtain ⟨f0, f1, f2, _⟩ := hf p.1 hb
    obtain ⟨o, e', d⟩ := ho p.1 hb
    rw [e] at e'; cases e'
    exact ⟨e, f0, f1, f2, d⟩
theorem Inv.unpinned {pins pl : List (Addr × Obj)} {σ : St} {H : Hp} {s : Shared} (I : Inv X (pins ++ pl) σ H s) : Inv X pins σ H s := I.pins_of fun p hp => I.pin p (List.mem_append_right _ (List.mem_append_left _ hp))
theorem ps_for {iter : Expr} {body : List Stmt} {wi : TI} {g : TG} {tb : TS} {pos : Pos} (hp : PassesOwn (model X.prog X.w) X.A X.env X.xe) (hc : X.calm = true) (hi : PI X tg iter wi) (hg : PG X tg g) (hb : PSs X body tb)
    (hs : ∀ x, foldedSetIterable iter X.env x = pure x := by intro _; rfl) : PS X (.For tg iter body [] pos) (tFor wi g tb) := by
  intro pins s σ H D I h
  refine wpAny_For (thn (hi pins s σ H _ I h) fun v s1 h1 => thn h1 fun itv s2 h2 => ?_) hs
  obtain ⟨it, fp, tn, J, H2, e, I2, T, st2, f2, W, ⟨m0, w0⟩, turn⟩ := h2
  subst e
  have stat : ∀ {H' : Hp}, (∀ b ∈ fp, H' b = none) → ∀ b ∈ fp, FpOk X pins H' b := fun hn b hb => ⟨hn b hb, (f2 b hb).2⟩
  refine codeAny_forLoop_any (fun n s' => ∃ i σ' H', Inv X pins σ' H' s' ∧ tn i s'.heap ∧ (∀ b ∈ fp, H' b = none) ∧ W i n σ' H') ?_ m0 ⟨0, σ, H2, I2, st2, fun b hb => (f2 b hb).1, w0⟩
  rintro n s3 ⟨i, σ3, H3, I3, st3, fr3, w3⟩
  rcases turn i n σ3 H3 w3 with ⟨stop, qn⟩ | ⟨go, N, hN, step⟩
  · refine wpAny_passesOwn hp (thn (T.done X rfl rfl rfl hc i pins s3 σ3 H3 X.xe I3 (stat fr3) st3 stop) fun r s4 ⟨hr, I4⟩ => ?_)
    subst hr
    exact wpAny_execs_nil ⟨σ3, H3, I4, qn⟩
  · refine wpAny_passesOwn hp (thn (T.item X rfl rfl rfl hc i pins s3 σ3 H3 X.xe I3 (stat fr3) st3 go) fun r s4 ⟨u, hr, h4⟩ => ?_)
    subst hr
    refine wpAny_passesOwn hp (thn h4 fun _ s5 ⟨x, H5, I5, r5, y5, st5, fr5⟩ => ?_)
    have I5' := I5.pinned (stat fr5) (T.obj _ _ st5)
    refine wpAny_passesOwn hp (thn (hg _ s5 σ3 H5 x u _ I5' r5 (step x H5 y5)) fun _ s6 ⟨σ6, H6, I6, q6⟩ => ?_)
    refine wpAny_passesOwn hp (thn (hb _ s6 σ6 H6 _ I6 q6) fun f s7 q7 => ?_)
    have again : ∀ {σ7 : St} {H7 : Hp}, Inv X (pins ++ pinsAt fp s5.heap) σ7 H7 s7 → N σ7 H7 → ∃ m, m < n ∧ ∃ i σ' H', Inv X pins σ' H' s7 ∧ tn i s7.heap ∧ (∀ b ∈ fp, H' b = none) ∧ W i m σ' H' := fun {σ7 H7} I7 n7 => by
      obtain ⟨m', hm, w7⟩ := hN σ7 H7 n7
      refine ⟨m', hm, i + 1, σ7, H7, I7.unpinned, T.keep _ _ _ st5 fun b hb o e => (I7.pin (b, o) (List.mem_append_right _ (List.mem_append_right _ (mem_pinsAt hb e)))).1, fun b hb => ?_, w7⟩
      obtain ⟨o, e, d⟩ := T.obj _ _ st5 b hb
      exact (I7.pin (b, o) (List.mem_append_right _ (List.mem_append_right _ (mem_pinsAt hb e)))).2.1
    cases f with
    | next => obtain ⟨σ7, H7, I7, n7⟩ := q7; exact again I7 n7
    | cont => obtain ⟨σ7, H7, I7, n7⟩ := q7; exact again I7 n7
    | brk => obtain ⟨σ7, H7, I7, q7⟩ := q7; exact ⟨σ7, H7, I7.unpinned, q7⟩
    | ret v => obtain ⟨x7, σ7, H7, I7, r7, q7⟩ := q7; exact ⟨x7, σ7, H7, I7.unpinned, r7, q7⟩
end
theorem for_list {K : PySem.W.Frag} {a : Addr} {xs : List V} {g : TG} {tb : TS} {D : Ends} {σ : St} {H : Hp} (Pv : Nat → St → Hp → Prop) (h0 : Pv 0 σ H) (hl : ∀ i σ H, i ≤ xs.length → Pv i σ H → SqL K H a xs)
    (hs : ∀ i x σ H, xs[i]? = some x → Pv i σ H → g x σ H fun σ2 H2 => tb { D with nx := Pv (i + 1), ct := Pv (i + 1), bk := D.nx } σ2 H2) (hd : ∀ σ H, Pv xs.length σ H → D.nx σ H) :
    ∃ W : Nat → Nat → St → Hp → Prop, (∃ m, W 0 m σ H) ∧ ∀ i m σ H, W i m σ H →
      ((Itl K a).stop i H ∧ D.nx σ H) ∨ ((Itl K a).go i H ∧ ∃ N : St → Hp → Prop, (∀ σ' H', N σ' H' → ∃ m', m' < m ∧ W (i + 1) m' σ' H') ∧ ∀ x H', (Itl K a).yld i H x H' → g x σ H' fun σ2 H2 => tb { D with nx := N, ct := N, bk := D.nx } σ2 H2) := by
  refine ⟨fun i m σ H => m = xs.length - i ∧ i ≤ xs.length ∧ Pv i σ H, ⟨xs.length, by simp, Nat.zero_le _, h0⟩, ?_⟩
  rintro i m σ H ⟨rfl, hi, p⟩
  have q := hl i σ H hi p
  by_cases hlt : i < xs.length
  · refine .inr ⟨⟨xs, xs[i], q, by simp [hlt]⟩, Pv (i + 1), fun σ' H' p' => ⟨xs.length - (i + 1), by omega, rfl, hlt, p'⟩, fun x H' y => ?_⟩
    obtain ⟨e, y⟩ := y
    subst e
    exact hs i x σ _ (y xs q) p
  · have e : i = xs.length := by omega
    subst e
    exact .inl ⟨⟨xs, q, Nat.le_refl _⟩, hd σ H p⟩
theorem for_range {lo : Int} {n : Nat} {g : TG} {tb : TS} {D : Ends} {σ : St} {H : Hp} (Pv : Nat → St → Hp → Prop) (h0 : Pv 0 σ H)
    (hs : ∀ i σ H, i < n → Pv i σ H → g (.int (lo + i)) σ H fun σ2 H2 => tb { D with nx := Pv (i + 1), ct := Pv (i + 1), bk := D.nx } σ2 H2) (hd : ∀ σ H, Pv n σ H → D.nx σ H) :
    ∃ W : Nat → Nat → St → Hp → Prop, (∃ m, W 0 m σ H) ∧ ∀ i m σ H, W i m σ H →
      ((Itr lo n).stop i H ∧ D.nx σ H) ∨ ((Itr lo n).go i H ∧ ∃ N : St → Hp → Prop, (∀ σ' H', N σ' H' → ∃ m', m' < m ∧ W (i + 1) m' σ' H') ∧ ∀ x H', (Itr lo n).yld i H x H' → g x σ H' fun σ2 H2 => tb { D with nx := N, ct := N, bk := D.nx } σ2 H2) := by
  refine ⟨fun i m σ H => m = n - i ∧ i ≤ n ∧ Pv i σ H, ⟨n, by simp, Nat.zero_le _, h0⟩, ?_⟩
  rintro i m σ H ⟨rfl, hi, p⟩
  by_cases hlt : i < n
  · refine .inr ⟨hlt, Pv (i + 1), fun σ' H' p' => ⟨n - (i + 1), by omega, rfl, hlt, p'⟩, fun x H' y => ?_⟩
    obtain ⟨e, y⟩ := y
    subst e y
    exact hs i σ _ hlt p
  · have e : i = n := by omega
    subst e
    exact .inl ⟨Nat.le_refl _, hd σ H p⟩
theorem while_by {c : TT} {tb : TS} {D : Ends} {σ : St} {H : Hp} (Pv : St → Hp → Prop) (μ : St → Hp → Nat) (h0 : Pv σ H)
    (hs : ∀ σ H, Pv σ H → c σ H fun b H1 => if b = true then tb { D with nx := fun σ' H' => Pv σ' H' ∧ μ σ' H' < μ σ H, ct := fun σ' H' => Pv σ' H' ∧ μ σ' H' < μ σ H, bk := D.nx } σ H1 else D.nx σ H1)
    (mono : ∀ σ H Q Q', (∀ b H1, Q b H1 → Q' b H1) → c σ H Q → c σ H Q') : tWhile c tb D σ H := by
  refine ⟨fun m σ H => m = μ σ H ∧ Pv σ H, ⟨_, rfl, h0⟩, ?_⟩
  rintro m σ H ⟨rfl, p⟩
  refine mono σ H _ _ (fun b H1 q => ?_) (hs σ H p)
  cases b with
  | true => exact ⟨_, fun σ' H' ⟨p', l⟩ => ⟨_, l, rfl, p'⟩, q⟩
  | false => exact q
end L2
namespace L2
open PySem PySem.Spec PyProof.Rows
noncomputable abbrev R2 := V → V → Hp → VK → Prop
noncomputable def OpR (X : Cx) (f : Value → Value → Sem Value) (r : R2) : Prop :=
  ∀ (pins : List (Addr × Obj)) (s : Shared) (σ : St) (H : Hp) (x y : V) (v u : Value) (Q : VK), Inv X pins σ H s → RelV x v → RelV y u → r x y H Q →
    wpAny (model X.prog X.w) X.A (f v u) (EP X pins σ Q) X.xe s
noncomputable def UnR (X : Cx) (f : Value → Sem Value) (r : V → Hp → VK → Prop) : Prop :=
  ∀ (pins : List (Addr × Obj)) (s : Shared) (σ : St) (H : Hp) (x : V) (v : Value) (Q : VK), Inv X pins σ H s → RelV x v → r x H Q →
    wpAny (model X.prog X.w) X.A (f v) (EP X pins σ Q) X.xe s
noncomputable def CallR (X : Cx) (f : Value) (r : List V → Hp → VK → Prop) : Prop :=
  ∀ (pins : List (Addr × Obj)) (s : Shared) (σ : St) (H : Hp) (xs : List V) (us : List Value) (Q : VK), Inv X pins σ H s → Vals xs us → r xs H Q →
    wpAny (model X.prog X.w) X.A (call f us) (EP X pins σ Q) X.xe s
noncomputable def tOp (r : R2) (ta tb : TE) : TE := fun σ H Q => ta σ H fun x H1 => tb σ H1 fun y H2 => r x y H2 Q
noncomputable def tUn (r : V → Hp → VK → Prop) (ta : TE) : TE := fun σ H Q => ta σ H fun x H1 => r x H1 Q
noncomputable def rI (C : Int → Int → Prop) (g : Int → Int → V) : R2 := fun x y H Q => ∃ i j, x = .int i ∧ y = .int j ∧ C i j ∧ Q (g i j) H
noncomputable def rI0 (g : Int → Int → V) : R2 := fun x y H Q => ∃ i j, x = .int i ∧ y = .int j ∧ Q (g i j) H
noncomputable def rU (g : Int → V) : V → Hp → VK → Prop := fun x H Q => ∃ i, x = .int i ∧ Q (g i) H
section
variable {X : Cx} {a b c : Expr} {ta tb tc : TE} {pos : Pos}
theorem binT (ha : PE X a ta) (hb : PE X b tb) {pins : List (Addr × Obj)} {s : Shared} {σ : St} {H : Hp} {R : V → V → Hp → Prop} (I : Inv X pins σ H s)
    (h : ta σ H fun x H1 => tb σ H1 fun y H2 => R x y H2) {Q : Value → Shared → Prop} {f : Value → Value → Sem Value}
    (hf : ∀ v u s2 x y H2, Inv X pins σ H2 s2 → RelV x v → RelV y u → R x y H2 → wpAny (model X.prog X.w) X.A (f v u) Q X.xe s2) :
    wpAny (model X.prog X.w) X.A (eval a X.env) (fun v s₁ => wpAny (model X.prog X.w) X.A (eval b X.env) (fun u s₂ => wpAny (model X.prog X.w) X.A (f v u) Q X.xe s₂) X.xe s₁) X.xe s := by
  refine thn (ha pins s σ H _ I h) fun v s1 ⟨x, H1, I1, r1, q1⟩ => ?_
  refine thn (hb pins s1 σ H1 _ I1 q1) fun u s2 ⟨y, H2, I2, r2, q2⟩ => ?_
  exact hf v u s2 x y H2 I2 r1 r2 q2
theorem pe_op {op : Operator} {r : R2} (ho : OpR X (binaryOp op) r) (ha : PE X a ta) (hb : PE X b tb) : PE X (.BinOp a op b pos) (tOp r ta tb) := by
  intro pins s σ H Q I h
  exact wpAny_BinOp (binT ha hb I h fun v u s2 x y H2 I2 rx ry q => ho pins s2 σ H2 x y v u Q I2 rx ry q)
theorem pe_un {op : UnaryOp} {r : V → Hp → VK → Prop} (ho : UnR X (unaryOp op) r) (ha : PE X a ta) : PE X (.UnaryOp op a pos) (tUn r ta) := by
  intro pins s σ H Q I h
  exact UnaryOp_ (thn (ha pins s σ H _ I h) fun v s1 ⟨x, H1, I1, r1, q1⟩ => ho pins s1 σ H1 x v Q I1 r1 q1)
theorem opI {f : Value → Value → Sem Value} {C : Int → Int → Prop} {g : Int → Int → Int}
    (rule : ∀ (i j : Int) (t u : Tok) (s : Shared) (Q : Value → Shared → Prop) (E : Value → Shared → Prop), C i j → Q (.int (g i j) s.toks) { s with toks := s.toks + 1 } → wpAny (model X.prog X.w) X.A (f (.int i t) (.int j u)) Q E s) :
    OpR X f (rI C fun i j => .int (g i j)) := by
  intro pins s σ H x y v u Q I rx ry h
  obtain ⟨i, j, rfl, rfl, hc, q⟩ := h
  obtain ⟨t, rfl⟩ := rx
  obtain ⟨t', rfl⟩ := ry
  exact rule i j t t' s _ _ hc ⟨.int (g i j), H, I.tok _, ⟨_, rfl⟩, q⟩
theorem opI0 {f : Value → Value → Sem Value} {g : Int → Int → Int}
    (rule : ∀ (i j : Int) (t u : Tok) (s : Shared) (Q : Value → Shared → Prop) (E : Value → Shared → Prop), Q (.int (g i j) s.toks) { s with toks := s.toks + 1 } → wpAny (model X.prog X.w) X.A (f (.int i t) (.int j u)) Q E s) :
    OpR X f (rI0 fun i j => .int (g i j)) := by
  intro pins s σ H x y v u Q I rx ry h
  obtain ⟨i, j, rfl, rfl, q⟩ := h
  obtain ⟨t, rfl⟩ := rx
  obtain ⟨t', rfl⟩ := ry
  exact rule i j t t' s _ _ ⟨.int (g i j), H, I.tok _, ⟨_, rfl⟩, q⟩
theorem opB0 {f : Value → Value → Sem Value} {g : Int → Int → Bool}
    (rule : ∀ (i j : Int) (t u : Tok) (s : Shared) (Q : Value → Shared → Prop) (E : Value → Shared → Prop), Q (.bool (g i j)) s → wpAny (model X.prog X.w) X.A (f (.int i t) (.int j u)) Q E s) :
    OpR X f (rI0 fun i j => .bl (g i j)) := by
  intro pins s σ H x y v u Q I rx ry h
  obtain ⟨i, j, rfl, rfl, q⟩ := h
  obtain ⟨t, rfl⟩ := rx
  obtain ⟨t', rfl⟩ := ry
  exact rule i j t t' s _ _ ⟨.bl (g i j), H, I, rfl, q⟩
noncomputable def CDiv (i j : Int) : Prop := 0 < j ∧ j < 1073741824
noncomputable def CPow (i j : Int) : Prop := 0 ≤ j ∧ j ≤ 1000000 ∧ i.natAbs < 2 ^ 64
noncomputable def CMul (i j : Int) : Prop := (-(2 ^ 64) < i ∧ i < 2 ^ 64) ∨ (-(2 ^ 64) < j ∧ j < 2 ^ 64)
theorem CMul.ok {i j : Int} (h : CMul i j) : IntMulOk i j := by
  rcases h with ⟨h1, h2⟩ | ⟨h1, h2⟩
  · exact .of_left (intBits_le_64 h1 h2)
  · exact .of_right (intBits_le_64 h1 h2)
theorem op_add : OpR X (binaryOp .Add) (rI0 fun i j => .int (i + j)) := opI0 fun _ _ _ _ _ _ _ q => add_int q
theorem op_sub : OpR X (binaryOp .Sub) (rI0 fun i j => .int (i - j)) := opI0 fun _ _ _ _ _ _ _ q => sub_int q
theorem op_mul : OpR X (binaryOp .Mult) (rI CMul fun i j => .int (i * j)) := opI fun _ _ _ _ _ _ _ hc q => mul_int q hc.ok
theorem op_fdiv : OpR X (binaryOp .FloorDiv) (rI CDiv fun i j => .int (i / j)) := opI fun i j _ _ _ _ _ hc q => by
  have h1 : (0 : Int) < j := hc.1
  have h2 : j < 1073741824 := hc.2
  exact floordiv_int (by omega) (by rw [Int.fdiv_eq_ediv_of_nonneg i (by omega)]; exact q) (.inl (PyProof.noPylong_small (by omega)))
theorem op_mod : OpR X (binaryOp .Mod) (rI (fun _ j => 0 < j) fun i j => .int (i % j)) := opI fun i j _ _ _ _ _ hc q => by
  have h1 : (0 : Int) < j := hc
  exact mod_int' (by omega) (by rw [Int.fmod_eq_emod_of_nonneg i (by omega)]; exact q)
theorem op_pow : OpR X (binaryOp .Pow) (rI CPow fun i j => .int (i ^ j.toNat)) := opI fun _ _ _ _ _ _ _ hc q => pow_int_small hc.1 hc.2.1 hc.2.2 q
theorem unI {f : Value → Sem Value} {g : Int → Int}
    (rule : ∀ (i : Int) (t : Tok) (s : Shared) (Q : Value → Shared → Prop) (E : Value → Shared → Prop), Q (.int (g i) s.toks) { s with toks := s.toks + 1 } → wpAny (model X.prog X.w) X.A (f (.int i t)) Q E s) :
    UnR X f (rU fun i => .int (g i)) := by
  intro pins s σ H x v Q I rx h
  obtain ⟨i, rfl, q⟩ := h
  obtain ⟨t, rfl⟩ := rx
  exact rule i t s _ _ ⟨.int (g i), H, I.tok _, ⟨_, rfl⟩, q⟩
theorem un_neg : UnR X (unaryOp .USub) (rU fun i => .int (-i)) := unI fun _ _ _ _ _ q => neg_int q
end
noncomputable def scal : V → V → Bool
  | .non, .non => true | .non, .int _ => true | .int _, .non => true | .non, .bl _ => true | .bl _, .non => true | .non, .str _ => true | .str _, .non => true
  | .int _, .int _ => true | .bl _, .bl _ => true | .str _, .str _ => true | .byt _, .byt _ => true
  | .int _, .str _ => true | .str _, .int _ => true | .bl _, .str _ => true | .str _, .bl _ => true
  | _, _ => false
noncomputable def rEq : R2 := fun x y H Q => scal x y = true ∧ Q (.bl (decide (x = y))) H
noncomputable def rNe : R2 := fun x y H Q => scal x y = true ∧ Q (.bl (!decide (x = y))) H
theorem dec_int {i j : Int} : decide (V.int i = V.int j) = (i == j) := by
  rw [Bool.eq_iff_iff]
  simp
theorem dec_bl {i j : Bool} : decide (V.bl i = V.bl j) = (i == j) := by
  rw [Bool.eq_iff_iff]
  simp
theorem dec_str {i j : Str} : decide (V.str i = V.str j) = (i == j) := by
  rw [Bool.eq_iff_iff]
  simp
theorem dec_byt {i j : Array UInt8} : decide (V.byt i = V.byt j) = (i.toList == j.toList) := by
  rw [Bool.eq_iff_iff]
  cases i
  cases j
  simp
section
variable {X : Cx} {a b c : Expr} {ta tb tc : TE} {pos : Pos}
theorem fin_bl {pins : List (Addr × Obj)} {σ : St} {H : Hp} {s : Shared} {Q : VK} {k k' : Bool} (I : Inv X pins σ H s) (q : Q (.bl k) H) (e : k = k') : EP X pins σ Q (.bool k') s := by
  subst e
  exact ⟨.bl k, H, I, rfl, q⟩
theorem op_eq : OpR X (compareOp .Eq) rEq := by
  intro pins s σ H x y v u Q I rx ry h
  obtain ⟨hs, q⟩ := h
  cases x with
  | non =>
    cases rx
    cases y with
    | non => cases ry; exact PySem.EqNone.eq_none_none (fin_bl I q (by simp))
    | bl j => cases ry; exact PySem.EqNone.eq_none_bool (fin_bl I q (by simp))
    | int j => obtain ⟨t', rfl⟩ := ry; exact PySem.EqNone.eq_none_int (fin_bl I q (by simp))
    | str j => obtain ⟨t', rfl⟩ := ry; exact PySem.EqNone.eq_none_str (fin_bl I q (by simp))
    | _ => exact absurd (show false = true from hs) Bool.false_ne_true
  | bl i =>
    cases rx
    cases y with
    | non => cases ry; exact PySem.EqNone.eq_bool_none (fin_bl I q (by simp))
    | bl j => cases ry; exact eq_bool (fin_bl I q dec_bl)
    | str j => obtain ⟨t', rfl⟩ := ry; exact PySem.EqMixed.eq_bool_str (fin_bl I q (by simp))
    | _ => exact absurd (show false = true from hs) Bool.false_ne_true
  | int i =>
    obtain ⟨t, rfl⟩ := rx
    cases y with
    | non => cases ry; exact PySem.EqNone.eq_int_none (fin_bl I q (by simp))
    | int j => obtain ⟨t', rfl⟩ := ry; exact eq_int (fin_bl I q dec_int)
    | str j => obtain ⟨t', rfl⟩ := ry; exact PySem.EqMixed.eq_int_str (fin_bl I q (by simp))
    | _ => exact absurd (show false = true from hs) Bool.false_ne_true
  | str i =>
    obtain ⟨t, rfl⟩ := rx
    cases y with
    | non => cases ry; exact PySem.EqNone.eq_str_none (fin_bl I q (by simp))
    | bl j => cases ry; exact PySem.EqMixed.eq_str_bool (fin_bl I q (by simp))
    | int j => obtain ⟨t', rfl⟩ := ry; exact PySem.EqMixed.eq_str_int (fin_bl I q (by simp))
    | str j => obtain ⟨t', rfl⟩ := ry; exact eq_str (fin_bl I q dec_str)
    | _ => exact absurd (show false = true from hs) Bool.false_ne_true
  | byt i =>
    obtain ⟨t, rfl⟩ := rx
    cases y with
    | byt j => obtain ⟨t', rfl⟩ := ry; exact PySem.W.eq_bytes (fin_bl I q dec_byt)
    | _ => exact absurd (show false = true from hs) Bool.false_ne_true
  | _ => cases y <;> exact absurd (show false = true from hs) Bool.false_ne_true
theorem op_ne : OpR X (compareOp .NotEq) rNe := by
  intro pins s σ H x y v u Q I rx ry h
  obtain ⟨hs, q⟩ := h
  cases x with
  | non =>
    cases rx
    cases y with
    | non => cases ry; exact PySem.EqNone.ne_none_none (fin_bl I q (by simp))
    | bl j => cases ry; exact PySem.EqNone.ne_none_bool (fin_bl I q (by simp))
    | int j => obtain ⟨t', rfl⟩ := ry; exact PySem.EqNone.ne_none_int (fin_bl I q (by simp))
    | str j => obtain ⟨t', rfl⟩ := ry; exact PySem.EqNone.ne_none_str (fin_bl I q (by simp))
    | _ => exact absurd (show false = true from hs) Bool.false_ne_true
  | bl i =>
    cases rx
    cases y with
    | non => cases ry; exact PySem.EqNone.ne_bool_none (fin_bl I q (by simp))
    | bl j => cases ry; exact ne_bool (fin_bl I q (congrArg not dec_bl))
    | str j => obtain ⟨t', rfl⟩ := ry; exact PySem.EqMixed.ne_bool_str (fin_bl I q (by simp))
    | _ => exact absurd (show false = true from hs) Bool.false_ne_true
  | int i =>
    obtain ⟨t, rfl⟩ := rx
    cases y with
    | non => cases ry; exact PySem.EqNone.ne_int_none (fin_bl I q (by simp))
    | int j => obtain ⟨t', rfl⟩ := ry; exact ne_int (fin_bl I q (congrArg not dec_int))
    | str j => obtain ⟨t', rfl⟩ := ry; exact PySem.EqMixed.ne_int_str (fin_bl I q (by simp))
    | _ => exact absurd (show false = true from hs) Bool.false_ne_true
  | str i =>
    obtain ⟨t, rfl⟩ := rx
    cases y with
    | non => cases ry; exact PySem.EqNone.ne_str_none (fin_bl I q (by simp))
    | bl j => cases ry; exact PySem.EqMixed.ne_str_bool (fin_bl I q (by simp))
    | int j => obtain ⟨t', rfl⟩ := ry; exact PySem.EqMixed.ne_str_int (fin_bl I q (by simp))
    | str j => obtain ⟨t', rfl⟩ := ry; exact ne_str (fin_bl I q (congrArg not dec_str))
    | _ => exact absurd (show false = true from hs) Bool.false_ne_true
  | byt i =>
    obtain ⟨t, rfl⟩ := rx
    cases y with
    | byt j => obtain ⟨t', rfl⟩ := ry; exact PySem.W.ne_bytes (fin_bl I q (congrArg not dec_byt))
    | _ => exact absurd (show false = true from hs) Bool.false_ne_true
  | _ => cases y <;> exact absurd (show false = true from hs) Bool.false_ne_true
theorem op_lt : OpR X (compareOp .Lt) (rI0 fun i j => .bl (decide (i < j))) := opB0 fun _ _ _ _ _ _ _ q => lt_int q
theorem op_gt : OpR X (compareOp .Gt) (rI0 fun i j => .bl (decide (j < i))) := opB0 fun _ _ _ _ _ _ _ q => gt_int q
theorem op_ge : OpR X (compareOp .GtE) (rI0 fun i j => .bl (decide (j ≤ i))) := opB0 fun _ _ _ _ _ _ _ q => ge_int q
theorem op_isN : OpR X (compareOp .Is) (fun x y H Q => y = .non ∧ Q (.bl (decide (x = .non))) H) := by
  intro pins s σ H x y v u Q I rx ry h
  obtain ⟨rfl, q⟩ := h
  cases ry
  refine is_none_gen (fin_bl I q ?_)
  cases x <;> first
    | (cases rx; rfl)
    | (obtain ⟨t, rfl⟩ := rx; rfl)
theorem op_notN : OpR X (compareOp .IsNot) (fun x y H Q => y = .non ∧ Q (.bl (!decide (x = .non))) H) := by
  intro pins s σ H x y v u Q I rx ry h
  obtain ⟨rfl, q⟩ := h
  cases ry
  refine isnot_none_gen (fin_bl I q ?_)
  cases x <;> first
    | (cases rx; rfl)
    | (obtain ⟨t, rfl⟩ := rx; rfl)
theorem nomark (b : Expr) {op : CmpOp} (h : op ≠ .In := by decide) (h2 : op ≠ .NotIn := by decide) : behindInMarks op b = false := by
  have e1 : (op == CmpOp.In) = false := by cases op <;> first | rfl | exact absurd rfl h
  have e2 : (op == CmpOp.NotIn) = false := by cases op <;> first | rfl | exact absurd rfl h2
  cases b <;> simp [behindInMarks, e1, e2]
theorem pe_cmpR {op : CmpOp} {r : R2} (ho : OpR X (compareOp op) r) (ha : PE X a ta) (hb : PE X b tb) (hm : behindInMarks op b = false) : PE X (.Compare a [op] [b] pos) (tOp r ta tb) := by
  intro pins s σ H Q I h
  exact wpAny_Compare1 (binT ha hb I h fun v u s2 x y H2 I2 rx ry q => ho pins s2 σ H2 x y v u Q I2 rx ry q) hm
noncomputable def tTest (t : TE) : TT := fun σ H Q => t σ H fun x H' => ∃ k, x = .bl k ∧ Q k H'
theorem pt_cmpR {op : CmpOp} {r : R2} (ho : OpR X (compareOp op) r) (ha : PE X a ta) (hb : PE X b tb) (hm : behindInMarks op b = false) : PT X (.Compare a [op] [b] pos) (tTest (tOp r ta tb)) := by
  intro pins s σ H Q I h
  refine wpAny_isTrue_Compare1 (thn (ha pins s σ H _ I h) fun v s1 ⟨x, H1, I1, r1, q1⟩ => thn (hb pins s1 σ H1 _ I1 q1) fun u s2 ⟨y, H2, I2, r2, q2⟩ =>
    thn (ho pins s2 σ H2 x y v u _ I2 r1 r2 q2) fun c s3 ⟨z, H3, I3, r3, k, e, q3⟩ => ?_) hm
  subst e
  cases r3
  exact wpAny_truthy_bool ⟨H3, I3, q3⟩
theorem line63 : (sizeLine : Nat) < 2 ^ 63 := by rw [sizeLine_eq]; decide
theorem vals1 {x : V} {us : List Value} (r : Vals [x] us) : ∃ u, us = [u] ∧ RelV x u := by
  cases r with
  | cons r1 r2 => cases r2; exact ⟨_, rfl, r1⟩
theorem vals2 {x y : V} {us : List Value} (r : Vals [x, y] us) : ∃ u w', us = [u, w'] ∧ RelV x u ∧ RelV y w' := by
  cases r with
  | cons r1 r2 =>
    cases r2 with
    | cons r3 r4 => cases r4; exact ⟨_, _, rfl, r1, r3⟩
theorem call_abs : CallR X (.builtin "abs") (fun xs H Q => ∃ i, xs = [.int i] ∧ Q (.int (if i < 0 then -i else i)) H) := by
  intro pins s σ H xs us Q I r h
  obtain ⟨i, rfl, q⟩ := h
  obtain ⟨u, rfl, t, rfl⟩ := vals1 r
  exact call_abs_int fun u tk => ⟨.int (if i < 0 then -i else i), H, I.tok _, ⟨_, rfl⟩, q⟩
theorem call_min2 (hc : X.calm = true) : CallR X (.builtin "min") (fun xs H Q => ∃ i j, xs = [.int i, .int j] ∧ Q (.int (if j < i then j else i)) H) := by
  intro pins s σ H xs us Q I r h
  obtain ⟨i, j, rfl, q⟩ := h
  obtain ⟨u, w', rfl, ⟨t, rfl⟩, ⟨t', rfl⟩⟩ := vals2 r
  refine min_two_ints (I.ok.hd hc) fun h' tk k => ⟨_, H, I.kept k, ?_, q⟩
  by_cases hj : j < i
  · rw [if_pos hj, if_pos hj]; exact ⟨_, rfl⟩
  · rw [if_neg hj, if_neg hj]; exact ⟨_, rfl⟩
end
end L2
namespace L2
open PySem PySem.Spec PyProof.Rows
end L2
namespace L2
open PySem PySem.Spec PyProof.Rows
structure Room (k : Nat) (A : Around) : Prop where
  hd : A.handled = none
  dp : A.depth + 3 * k + 5 < recursionLimit
  un : A.units + 16 * k + 200 < cLine
  gd : A.guards = some []
theorem Room.mono {j k : Nat} {A : Around} (r : Room k A) (h : j ≤ k) : Room j A := ⟨r.hd, by have := r.dp; omega, by have := r.un; omega, r.gd⟩
theorem Room.deeper {k : Nat} {A : Around} (r : Room (k + 1) A) (env : Env) : Room k (A.deeper env) :=
  ⟨r.hd, by have := r.dp; show A.depth + 1 + 3 * k + 5 < _; omega, by have := r.un; show A.units + 3 + 16 * k + 200 < _; omega, r.gd⟩
theorem Room.depth {k : Nat} {A : Around} (r : Room k A) : A.depth < recursionLimit := by have := r.dp; omega
theorem Room.units {k : Nat} {A : Around} (r : Room k A) : A.units + 64 < cLine := by have := r.un; omega
noncomputable def tNil : TA := fun _ H Q => Q [] H
noncomputable def tCons (ta : TE) (tr : TA) : TA := fun σ H Q => ta σ H fun x H1 => tr σ H1 fun xs H2 => Q (x :: xs) H2
section
variable {X : Cx} {e : Expr} {es : List Expr} {te : TE} {t : TA} {pos : Pos}
theorem pa_nil : PA X [] tNil := fun _ _ _ _ H Q I h => Calls.spliced_nil ⟨[], H, I, .nil, h⟩
theorem pa_cons (ha : PE X e te) (hr : PA X es t) (hs : starEach (e :: es) X.env = (false, eval e X.env) :: starEach es X.env := by rfl) : PA X (e :: es) (tCons te t) := by
  intro pos pins s σ H Q I h
  rw [hs]
  show wpAny _ _ (spliced ((false, eval e X.env) :: backTo pos (starEach es X.env))) _ _ s
  refine Calls.spliced_cons (thn (ha pins s σ H _ I h) fun u s1 ⟨x, H1, I1, r1, q1⟩ => ?_)
  exact thn (hr pos pins s1 σ H1 _ I1 q1) fun us s2 ⟨xs, H2, I2, r2, q2⟩ => ⟨x :: xs, H2, I2, .cons r1 r2, q2⟩
noncomputable def tTup (t : TA) : TE := fun σ H Q => t σ H fun xs H1 => xs.length ≤ sizeLine ∧ ∀ p, H1 p = none → Q (.ref p) (upd H1 p (.tup xs))
noncomputable def tLst (t : TA) : TE := fun σ H Q => t σ H fun xs H1 => xs.length ≤ sizeLine ∧ ∀ p, H1 p = none → Q (.ref p) (upd H1 p (.lst xs))
theorem pe_tup {x1} (h : PA X es t) : PE X (.Tuple es x1 pos) (tTup t) := by
  intro pins s σ H Q I hq
  refine wpAny_Tuple_spliced (thn (h pos pins s σ H _ I hq) fun us s1 ⟨xs, H1, I1, r, z, q⟩ => ⟨by rw [← r.length]; exact z, ?_⟩)
  have hf : H1 s1.heap.objs.size = none := I1.hok.fresh (Nat.le_refl _)
  refine ⟨.ref s1.heap.objs.size, upd H1 s1.heap.objs.size (.tup xs), I1.laid (t' := s1.toks) (fun b u e => Heap.get?_push_of_some _ e) (Nat.le_refl _) ?_, rfl, q _ hf⟩
  exact ⟨z, us, r, ⟨_, Heap.get?_push_size _ rfl, rfl, _, rfl, rfl⟩⟩
theorem pe_lst (h : PA X es t) : PE X (.List es pos) (tLst t) := by
  intro pins s σ H Q I hq
  refine wpAny_List_spliced (thn (h pos pins s σ H _ I hq) fun us s1 ⟨xs, H1, I1, r, z, q⟩ => ⟨by rw [← r.length]; exact z, ?_⟩)
  have hf : H1 s1.heap.objs.size = none := I1.hok.fresh (Nat.le_refl _)
  refine ⟨.ref s1.heap.objs.size, upd H1 s1.heap.objs.size (.lst xs), I1.laid (t' := s1.toks) (fun b u e => Heap.get?_push_of_some _ e) (Nat.le_refl _) ?_, rfl, q _ hf⟩
  exact ⟨z, us, 0, r, Heap.get?_push_size _ rfl⟩
end
noncomputable abbrev Sp := List V → Hp → VK → XK → Prop
noncomputable abbrev CXT := List Env → Hp → Shared → XK → Value → Shared → Prop
structure Env0 (P : Program) (w : World) (K : PySem.W.Frag) (mg : Str → Option Value) (base : Heap) (A : Around) (outer : List Env) (s : Shared) (H : Hp) : Prop where
  frames : A.frames = some outer
  mod : Mod K mg base
  bs : ∀ b o, base.get? b = some o → s.heap.get? b = some o ∧ H b = none
  bsz : base.objs.size ≤ s.heap.objs.size
  funs : s.heap.FunFrames base outer
  frf : ∀ b ∈ frs outer, H b = none
  hok : HOk P w H s.heap
  bare : AllBare s.gens
noncomputable def CE (outer : List Env) (P : Program) (w : World) (H : Hp) (s : Shared) (Q : VK) (u : Value) (s' : Shared) : Prop :=
  ∃ v H', s'.os = s.os ∧ AllBare s'.gens ∧ Un (frs outer) [] H H' s.heap s'.heap ∧ HOk P w H' s'.heap ∧ RelV v u ∧ Q v H'
noncomputable def CR (CX : CXT) (outer : List Env) (P : Program) (w : World) (H : Hp) (s : Shared) (Q : VK) (E : XK) (r : Result) (s' : Shared) : Prop :=
  match r with
  | .ok (.ret u) => CE outer P w H s Q u s'
  | .ok _ => False
  | .error e => CX outer H s E e s'
structure FnOk (P : Program) (w : World) (K : PySem.W.Frag) (mg : Str → Option Value) (base : Heap) (CX : CXT) (k : Nat) (f : Addr) (fd : FuncData) (ps : List Str) (sp : Sp) : Prop where
  len : ∀ vs H Q E, sp vs H Q E → vs.length = ps.length
  run : ∀ (A : Around) (outer : List Env) (s : Shared) (H : Hp) (args : Args) (us : List Value) (vs : List V) (Q : VK) (E : XK), Room k A → Env0 P w K mg base A outer s H → BindsTo s fd args (ps.zip us) → Vals vs us → sp vs H Q E →
    codeAny (model P w) A (.call (.ref f) args) (CR CX outer P w H s Q E) s
theorem FnOk.mono {P : Program} {w : World} {K : PySem.W.Frag} {mg : Str → Option Value} {base : Heap} {CX : CXT} {j k : Nat} {f : Addr} {fd : FuncData} {ps : List Str} {sp : Sp} (F : FnOk P w K mg base CX j f fd ps sp) (h : j ≤ k) :
    FnOk P w K mg base CX k f fd ps sp := ⟨F.len, fun A outer s H args us vs Q E hr => F.run A outer s H args us vs Q E (hr.mono h)⟩
section
variable {X : Cx} {pins : List (Addr × Obj)} {σ : St} {H : Hp} {s s' : Shared}
theorem Inv.env0 (I : Inv X pins σ H s) : Env0 X.prog X.w X.K X.mg X.base X.A X.stack s H :=
  ⟨I.ok.frames, I.ok.mod, I.bs, Nat.le_trans I.ok.bsz I.sz, I.stack, I.stkFree, I.hok, I.bare⟩
theorem Inv.after {Q : VK} {u : Value} (I : Inv X pins σ H s) (h : CE X.stack X.prog X.w H s Q u s') : EP X pins σ Q u s' := by
  obtain ⟨v, H', os, bare, un, hok, r, q⟩ := h
  obtain ⟨hh, g, d, t, os'⟩ := s'
  obtain rfl : os' = s.os := os
  exact ⟨v, H', I.call (h' := hh) (g' := g) (d' := d) (t' := t) (ch := []) un hok bare (fun b z => absurd z (by simp)), r, q⟩
end
noncomputable def tCall (sp : Sp) (dvs : List V) (E : XK) (t : TA) : TE := fun σ H Q => t σ H fun vs H1 => sp (vs ++ dvs) H1 Q E
noncomputable def Binds (K : PySem.W.Frag) (fd : FuncData) (ps : List Str) (ds : List Value) : Prop :=
  ∀ (s : Shared) (us : List Value), K.In s.heap → (us ++ ds).length = ps.length → BindsTo s fd ⟨us, []⟩ (ps.zip (us ++ ds))
theorem Binds.all {K : PySem.W.Frag} {fd : FuncData} {ps : List Str} (h : ∀ us : List Value, us.length = ps.length → bindArgs fd ⟨us, []⟩ = pure (ps.zip us)) : Binds K fd ps [] := fun s us _ hl => by
  rw [List.append_nil] at hl ⊢
  exact .of_eq (h us hl)
noncomputable def Passes (CX : CXT) (X : Cx) (E : XK) : Prop := ∀ (pins : List (Addr × Obj)) (σ : St) (H : Hp) (s : Shared) (e : Value) (s' : Shared), Inv X pins σ H s → CX X.stack H s E e s' → X.xe e s'
section
variable {X : Cx} {CX : CXT} {k : Nat} {f C : Addr} {fd : FuncData} {ps : List Str} {sp : Sp} {dvs : List V} {ds : List Value} {E : XK} {x m : Str} {p pos apos : Pos} {e o : Expr} {es : List Expr} {ta : TE} {t : TA}
theorem run_fn {pins : List (Addr × Obj)} {σ : St} {H : Hp} {s : Shared} {Q : VK} {us : List Value} {vs : List V} (F : FnOk X.prog X.w X.K X.mg X.base CX k f fd ps sp) (hr : Room k X.A) (hb : Binds X.K fd ps ds) (hd : Vals dvs ds) (hx : Passes CX X E)
    (I : Inv X pins σ H s) (r : Vals vs us) (h : sp (vs ++ dvs) H Q E) : wpAny (model X.prog X.w) X.A (call (.ref f) us) (EP X pins σ Q) X.xe s := by
  have r2 : Vals (vs ++ dvs) (us ++ ds) := r.append hd
  have hl : (us ++ ds).length = ps.length := by rw [← r2.length]; exact F.len _ _ _ _ h
  refine wpAny_call (codeAny_mono (F.run X.A X.stack s H ⟨us, []⟩ (us ++ ds) (vs ++ dvs) Q E hr I.env0 (hb s us I.kIn hl) r2 h) fun r s' hq => ?_)
  cases r with
  | error e => exact hx pins σ H s e s' I hq
  | ok fl =>
    cases fl with
    | ret u => exact I.after hq
    | next => exact False.elim hq
    | brk => exact False.elim hq
    | cont => exact False.elim hq
theorem pe_call (F : FnOk X.prog X.w X.K X.mg X.base CX k f fd ps sp) (hr : Room k X.A) (hg : Gl X x) (hm : X.mg x = some (.ref f)) (hk : PySem.W.keepIn X.K (.ref f) = true) (hb : Binds X.K fd ps ds) (hd : Vals dvs ds) (hx : Passes CX X E)
    (ha : PA X (e :: es) t) (hdb : (x == ("__debug__" : Str)) = false := by decide) (he : starEach (e :: es) X.env = (false, eval e X.env) :: starEach es X.env := by rfl) (hpl : (backTo pos (starEach es X.env)).any (·.1) = false := by rfl) :
    PE X (.Call (.Name x p) (e :: es) [] pos) (tCall sp dvs E t) := by
  intro pins s σ H Q I h
  refine wpAny_Call_Name_kw (ld_glob I hg hm ?_ hdb)
  refine PySem.W.callWith_K (h₀ := X.base) I.ok.mod.kin hk (thn (ha pos pins s σ H _ I h) fun us s1 ⟨vs, H1, I1, r, q⟩ => ⟨I1.kIn, ?_⟩) he hpl
  exact run_fn F hr hb hd hx I1 r q
end
structure FnScope (N P : List Str) (sc : Scope) : Prop where
  kind : sc.kind = .function
  co : sc.isCoroutine = false
  gen : sc.isGenerator = false
  nd : N.Nodup
  pre : N.take P.length = P
  par : ∀ x ∈ P, sc.names.lookup x = some .local ∨ sc.names.lookup x = some .cell
  nofree : ∀ y ∈ sc.names, y.2 ≠ .free
theorem bindL_out {kindOf : Str → Option NameKind} {x : Str} : ∀ {binds : List (Str × Value)} {m : Str → Option Value}, (∀ v, (x, v) ∉ binds) → bindL kindOf binds m x = m x
  | [], _, _ => rfl
  | (n, v) :: r, m, h => by
    unfold bindL
    rw [bindL_out fun w hw => h w (List.mem_cons_of_mem _ hw)]
    split
    · have : x ≠ n := by rintro rfl; exact h v List.mem_cons_self
      simp [this]
    · rfl
theorem bindC_out {kindOf : Str → Option NameKind} {x : Str} : ∀ {binds : List (Str × Value)} {m : Str → Option Value}, (∀ v, (x, v) ∉ binds) → bindC kindOf binds m x = m x
  | [], _, _ => rfl
  | (n, v) :: r, m, h => by
    unfold bindC
    rw [bindC_out fun w hw => h w (List.mem_cons_of_mem _ hw)]
    split
    · rfl
    · have : x ≠ n := by rintro rfl; exact h v List.mem_cons_self
      simp [this]
theorem bindL_get {kindOf : Str → Option NameKind} {x : Str} {v : Value} : ∀ {P : List Str} {vs : List Value} {i : Nat} {m : Str → Option Value}, P.Nodup → P[i]? = some x → vs[i]? = some v → kindOf x = some .local →
    bindL kindOf (P.zip vs) m x = some v
  | [], _, _, _, _, h, _, _ => by simp at h
  | _ :: _, [], _, _, _, _, h, _ => by simp at h
  | p :: P, w :: vs, 0, m, nd, h1, h2, hk => by
    simp at h1 h2; subst h1; subst h2
    show bindL kindOf ((p, w) :: P.zip vs) m p = _
    unfold bindL
    rw [bindL_out fun v hv => (List.nodup_cons.mp nd).1 (List.of_mem_zip hv).1, if_pos hk]
    simp
  | p :: P, w :: vs, i + 1, m, nd, h1, h2, hk => by
    show bindL kindOf ((p, w) :: P.zip vs) m x = _
    unfold bindL
    exact bindL_get (i := i) (List.nodup_cons.mp nd).2 (by simpa using h1) (by simpa using h2) hk
theorem bindC_get {kindOf : Str → Option NameKind} {x : Str} {v : Value} : ∀ {P : List Str} {vs : List Value} {i : Nat} {m : Str → Option Value}, P.Nodup → P[i]? = some x → vs[i]? = some v → kindOf x ≠ some .local →
    bindC kindOf (P.zip vs) m x = some v
  | [], _, _, _, _, h, _, _ => by simp at h
  | _ :: _, [], _, _, _, _, h, _ => by simp at h
  | p :: P, w :: vs, 0, m, nd, h1, h2, hk => by
    simp at h1 h2; subst h1; subst h2
    show bindC kindOf ((p, w) :: P.zip vs) m p = _
    unfold bindC
    rw [bindC_out fun v hv => (List.nodup_cons.mp nd).1 (List.of_mem_zip hv).1, if_neg hk]
    simp
  | p :: P, w :: vs, i + 1, m, nd, h1, h2, hk => by
    show bindC kindOf ((p, w) :: P.zip vs) m x = _
    unfold bindC
    exact bindC_get (i := i) (List.nodup_cons.mp nd).2 (by simpa using h1) (by simpa using h2) hk
noncomputable def start (N : List Str) (vs : List V) : St := vs.map some ++ List.replicate (N.length - vs.length) none
noncomputable def cxOf (CX : CXT) (P : Program) (w : World) (K : PySem.W.Frag) (mg : Str → Option Value) (base : Heap) (N : List Str) (qual : Str) (scope : Scope) (f : Addr) (cd : Value) (A : Around) (outer : List Env) (s : Shared) (H : Hp) (E : XK) : Cx where
  prog := P
  w := w
  K := K
  mg := mg
  base := base
  A := A.deeper (envOfC qual scope s.heap.objs.size f cd)
  N := N
  s₀ := s
  H₀ := H
  env := envOfC qual scope s.heap.objs.size f cd
  outer := outer
  stack := envOfC qual scope s.heap.objs.size f cd :: outer
  ex := []
  calm := true
  fn := fun _ => true
  pn := []
  xe := fun e s' => wpAny (model P w) (A.deeper (envOfC qual scope s.heap.objs.size f cd)) (leaving (envOfC qual scope s.heap.objs.size f cd) e) (fun _ s'' => CX outer H s E e s'') (fun e' s'' => CX outer H s E e' s'') s'
theorem cell_has {sc : Scope} {n : Nat} {x : Str} (h : sc.names.lookup x = some .cell) : ∃ c, (cellsFrom n sc.names []).lookup x = some c := by
  have q := PySem.W.cellsFrom_some sc.names n [] (.inl h)
  exact Option.isSome_iff_exists.mp q
theorem inv_start {CX : CXT} {P : Program} {w : World} {K : PySem.W.Frag} {mg : Str → Option Value} {base : Heap} {N ps : List Str} {qual : Str} {scope : Scope} {f : Addr} {cd : Value} {A : Around} {outer : List Env} {s s1 : Shared} {H : Hp} {E : XK} {us : List Value} {vs : List V}
    (S : FnScope N ps scope) (hd : A.handled = none) (e0 : Env0 P w K mg base A outer s H) (hl : vs.length = ps.length) (r : Vals vs us)
    (x : InCallC s s.heap.objs.size (bindL (envOfC qual scope s.heap.objs.size f cd).kindOf (ps.zip us) fun _ => none) (cellsFrom (s.heap.objs.size + 1) scope.names []) (bindC (envOfC qual scope s.heap.objs.size f cd).kindOf (ps.zip us) fun _ => none) s1) :
    Inv (cxOf CX P w K mg base N qual scope f cd A outer s H E) [] (start N vs) H s1 := by
  have hpl : ps.length ≤ N.length := by have := congrArg List.length S.pre; rw [List.length_take] at this; omega
  obtain ⟨h1, tk, rfl, hk⟩ := x.done
  have noA : ∀ b : Addr, b ∉ (cxOf CX P w K mg base N qual scope f cd A outer s H E).ex := fun b z => absurd (show b ∈ ([] : List Addr) from z) (by simp)
  refine ⟨⟨e0.mod, S.kind, rfl, rfl, Nat.le_refl _, fun y z c h1 h2 => ?_, fun y hy => ?_, fun y c _ h => ?_, fun _ => hd, Around.frames_deeper e0.frames, .inr ⟨rfl, rfl⟩, fun b z => absurd z (noA b), e0.bs, e0.bsz, fun b _ _ => noA b, fun b z => absurd z (noA b), e0.funs, e0.frf⟩,
    rfl, e0.bare, Un.kept hk, ⟨_, x.toInCall.ns, fun i y v h1 h2 h3 => ?_⟩, fun y c h => ⟨_, x.cell y c h⟩, e0.hok.fresh (Nat.le_refl _), fun y c h => ?_, fun p hp => absurd (show p ∈ ([] : List (Addr × Obj)) from hp) (by simp), e0.hok.kept hk, ?_⟩
  · exact name_of_addr x.apart (PySem.mem_of_lookup h1) (PySem.mem_of_lookup h2)
  · have hy : scope.names.lookup y = some .cell ∨ scope.names.lookup y = some .free := hy
    rcases hy with hy | hy
    · exact cell_has hy
    · exact absurd rfl (S.nofree _ (PySem.mem_of_lookup hy))
  · exact Nat.le_of_lt (x.above y c (PySem.mem_of_lookup h))
  · have hi : i < vs.length := by
      unfold start at h2
      by_cases hi : i < vs.length
      · exact hi
      · rw [List.getElem?_append_right (by simpa using hi)] at h2
        rw [List.getElem?_replicate] at h2
        split at h2 <;> cases h2
    have ha : vs[i]? = some v := by
      unfold start at h2
      rw [List.getElem?_append_left (by simpa using hi), List.getElem?_map] at h2
      cases e : vs[i]? with
      | none => rw [e] at h2; cases h2
      | some a => rw [e] at h2; cases h2; rfl
    obtain ⟨u, hu, rv⟩ := r.get ha
    have hp : ps[i]? = some y := by
      rw [← S.pre, List.getElem?_take_of_lt (by omega)]; exact h1
    have ndP : ps.Nodup := by rw [← S.pre]; exact S.nd.sublist (List.take_sublist _ _)
    refine ⟨u, rv, ?_⟩
    rcases S.par y (List.mem_of_getElem? hp) with k | k
    · exact .inl ⟨k, bindL_get ndP hp hu k⟩
    · obtain ⟨c, e⟩ := cell_has (n := s.heap.objs.size + 1) k
      refine .inr ⟨.inl k, c, e, ?_⟩
      have q := x.cell y c e
      rw [bindC_get ndP hp hu (by show scope.names.lookup y ≠ _; rw [k]; decide)] at q
      exact q
  · exact e0.hok.fresh (Nat.le_of_lt (x.above y c (PySem.mem_of_lookup h)))
  · unfold start
    show _ = N.length
    rw [List.length_append, List.length_map, List.length_replicate]
    omega
theorem fn_of {CX : CXT} {P : Program} {w : World} {K : PySem.W.Frag} {mg : Str → Option Value} {base : Heap} {k : Nat} {f : Addr} {name qual : Str} {params : Arguments} {body : List Stmt} {scope : Scope} {dV kV doc pm cdv ct oc : Value} {an od : Option Addr}
    {osl : Array (Option Value)} {N ps : List Str} {sp : Sp} (lk : K.lookup f = some ⟨oc, od, .func (PySem.W.fnOf name qual params body scope dV kV doc pm an cdv ct), osl⟩) (hcd : PySem.W.codeIn K cdv qual = true) (S : FnScope N ps scope)
    (len : ∀ vs H Q E, sp vs H Q E → vs.length = ps.length)
    (hbody : ∀ (A : Around) (outer : List Env) (s : Shared) (H : Hp) (vs : List V) (Q : VK) (E : XK), Room k (A.deeper (envOfC qual scope s.heap.objs.size f cdv)) → sp vs H Q E →
      ∃ t, PSs (cxOf CX P w K mg base N qual scope f cdv A outer s H E) body t ∧ t { nx := fun _ H' => Q .non H', rt := Q } (start N vs) H) :
    FnOk P w K mg base CX (k + 1) f (PySem.W.fnOf name qual params body scope dV kV doc pm an cdv ct) ps sp := by
  refine ⟨len, fun A outer s H args us vs Q E hr e0 hb r hsp => ?_⟩
  have hl := len _ _ _ _ hsp
  have KX : K.In s.heap := e0.mod.kin.keeps fun b o e => (e0.bs b o e).1
  have lim : s.heap.NoLimit := e0.mod.nolimit.keeps fun b o e => (e0.bs b o e).1
  have hkind : ∀ y ∈ ps.zip us, scope.names.lookup y.1 = some .local ∨ (scope.names.lookup y.1 = some .cell ∧ ((cellsFrom (s.heap.objs.size + 1) scope.names []).lookup y.1).isSome = true) := fun ⟨n, v⟩ hy => by
    rcases S.par n (List.of_mem_zip hy).1 with q | q
    · exact .inl q
    · exact .inr ⟨q, PySem.W.cellsFrom_some _ _ _ (.inl q)⟩
  refine codeAny_call_function hr.depth (KX _ _ lk) rfl S.co S.gen rfl (PySem.W.codeRec_of KX hcd) (hb _ _ _ _ ?_)
  refine wpAny_newFunctionEnv_cells S.kind hkind fun env he s1 x => ?_
  subst he
  refine ⟨lim.keeps x.toInCall.keep, codeAny_func ?_⟩
  obtain ⟨t, ht, hq⟩ := hbody A outer s H vs Q E (hr.deeper _) hsp
  have I : Inv (cxOf CX P w K mg base N qual scope f cdv A outer s H E) [] (start N vs) H s1 := inv_start S hr.hd e0 hl r x
  refine wpAny_mono (ht [] s1 (start N vs) H _ I hq) (fun fl s' hs => ?_) fun e s' hs => hs
  have fin : ∀ {σ' : St} {H' : Hp} {v : V} {u : Value}, Inv (cxOf CX P w K mg base N qual scope f cdv A outer s H E) [] σ' H' s' → RelV v u → Q v H' → CE outer P w H s Q u s' :=
    fun {σ' H' v u} J rv q => ⟨v, H', J.os, J.bare, J.base, J.hok, rv, q⟩
  cases fl with
  | ret u =>
    obtain ⟨v, σ', H', J, rv, q⟩ := hs
    exact fin J rv q
  | next =>
    obtain ⟨σ', H', J, q⟩ := hs
    exact fin (v := V.non) (u := Value.none) J rfl q
  | brk =>
    obtain ⟨_, _, _, q⟩ := hs
    exact False.elim q
  | cont =>
    obtain ⟨_, _, _, q⟩ := hs
    exact False.elim q
end L2
namespace L2
open PySem PySem.Spec PyProof.Rows
section
variable {X : Cx} {x : Str} {p pos : Pos} {e : Expr} {es : List Expr} {t : TA} {id T : String} {r : List V → Hp → VK → Prop}
noncomputable def tCB (r : List V → Hp → VK → Prop) (t : TA) : TE := fun σ H Q => t σ H fun vs H1 => r vs H1 Q
theorem pe_callB (hc : CallR X (.builtin id) r) (hg : Gl X x) (hm : X.mg x = none) (hv : bootBuiltins x = some (.builtin id)) (ha : PA X (e :: es) t) (hn : x ≠ "__name__" := by decide) (hdb : (x == ("__debug__" : Str)) = false := by decide)
    (he : starEach (e :: es) X.env = (false, eval e X.env) :: starEach es X.env := by rfl) (hpl : (backTo pos (starEach es X.env)).any (·.1) = false := by rfl) : PE X (.Call (.Name x p) (e :: es) [] pos) (tCB r t) := by
  intro pins s σ H Q I h
  refine wpAny_Call_Name_kw (ld_blt I hg hm hv ?_ hn hdb)
  exact PyProof.Rows.callWith_builtin1 (thn (ha pos pins s σ H _ I h) fun us s1 ⟨vs, H1, I1, r1, q1⟩ => hc pins s1 σ H1 vs us Q I1 r1 q1) he hpl
theorem pe_callTy (hc : CallR X (.type T) r) (hg : Gl X x) (hm : X.mg x = none) (hv : bootBuiltins x = some (.type T)) (ha : PA X (e :: es) t) (hn : x ≠ "__name__" := by decide) (hdb : (x == ("__debug__" : Str)) = false := by decide)
    (he : starEach (e :: es) X.env = (false, eval e X.env) :: starEach es X.env := by rfl) (hpl : (backTo pos (starEach es X.env)).any (·.1) = false := by rfl) : PE X (.Call (.Name x p) (e :: es) [] pos) (tCB r t) := by
  intro pins s σ H Q I h
  refine wpAny_Call_Name_kw (ld_blt I hg hm hv ?_ hn hdb)
  exact PyProof.Rows.callWith_type1 (thn (ha pos pins s σ H _ I h) fun us s1 ⟨vs, H1, I1, r1, q1⟩ => hc pins s1 σ H1 vs us Q I1 r1 q1) he hpl
end
end L2
namespace HT
open PySem PyProof.Rows
section
variable {prog : Program} {w : World} {A : Around} {E : Value → Shared → Prop} {s : Shared}
noncomputable def sIx (n d : Nat) : Option Int → Nat
  | none => d
  | some v => if v < 0 then (v + (n : Int)).toNat else min v.toNat n
theorem sIx_none (n d : Nat) : sIx n d none = d := rfl
theorem sIx_nat (n d k : Nat) : sIx n d (some (k : Int)) = min k n := by
  show (if (k : Int) < 0 then ((k : Int) + (n : Int)).toNat else min (k : Int).toNat n) = min k n
  rw [if_neg (by omega), Int.toNat_natCast]
theorem sIx_le (n d : Nat) (hd : d ≤ n) (o : Option Int) : sIx n d o ≤ n := by
  cases o with
  | none => exact hd
  | some v =>
    show (if v < 0 then (v + (n : Int)).toNat else min v.toNat n) ≤ n
    by_cases hv : v < 0
    · rw [if_pos hv]; omega
    · rw [if_neg hv]; exact Nat.min_le_right _ _
theorem clip_eq (v : Int) (n d : Nat) : (if v < 0 then max (v + (n : Int)) 0 else min v (n : Int)) = ((sIx n d (some v) : Nat) : Int) := by
  show (if v < 0 then max (v + (n : Int)) 0 else min v (n : Int)) = (((if v < 0 then (v + (n : Int)).toNat else min v.toNat n) : Nat) : Int)
  by_cases hv : v < 0
  · simp only [if_pos hv]; omega
  · simp only [if_neg hv]; omega
theorem adjust_gen (lo hi : Option Int) (n : Nat) : Builtin.Slice.sliceAdjust lo hi 1 (n : Int) = (((sIx n 0 lo : Nat) : Int), ((sIx n n hi : Nat) : Int)) := by
  have h1 : ¬ ((1 : Int) < 0) := by omega
  unfold Builtin.Slice.sliceAdjust
  simp only [h1, if_false]
  refine Prod.ext ?_ ?_
  · cases lo with
    | none => rfl
    | some v => exact clip_eq v n 0
  · cases hi with
    | none => rfl
    | some v => exact clip_eq v n n
theorem places_gen (i j : Nat) : Builtin.Slice.slicePlaces (i : Int) (j : Int) 1 = j - i := by
  unfold Builtin.Slice.slicePlaces
  have h1 : (1 : Int) > 0 := by omega
  simp only [h1, if_true, Int.ediv_one]
  split <;> omega
theorem slicePart_ {v : Value} {o : Option Int} {Q : Option Int → Shared → Prop} (p : IsPart v o) (h : Q o s) : wpAny (model prog w) A (Builtin.Slice.slicePartIndex v) Q E s := by
  cases p with
  | none => exact slicePart_none h
  | int i t => exact slicePart_int h
theorem sliceApplied_gen {sl : Addr} {vl vu : Value} {lo hi : Option Int} {n : Nat} {Q : Int × Int × Nat → Shared → Prop} (hs : s.heap.IsSliceOf sl vl vu .none) (pl : IsPart vl lo) (pu : IsPart vu hi)
    (h : Q (((sIx n 0 lo : Nat) : Int), 1, sIx n n hi - sIx n 0 lo) s) : wpAny (model prog w) A (Builtin.Slice.sliceApplied (.ref sl) (pure (n : Int))) Q E s := by
  obtain ⟨os, hos, hcs, hds⟩ := id hs
  unfold Builtin.Slice.sliceApplied Builtin.Slice.sliceFields
  refine wpAny_bind (wpAny_bind (wpAny_field hos hds (x := vl) rfl (wpAny_bind (wpAny_field hos hds (x := vu) rfl (wpAny_bind (wpAny_field hos hds (x := .none) rfl (wpAny_pure ?_)))))))
  refine wpAny_bind (slicePart_none ?_)
  show wpAny _ _ (if ((1 : Int) == 0) = true then _ else _) _ _ s
  rw [if_neg (by decide)]
  refine wpAny_bind (slicePart_ pl (wpAny_bind (slicePart_ pu (wpAny_bind (wpAny_pure ?_)))))
  show wpAny _ _ (match Builtin.Slice.sliceAdjust lo hi 1 (n : Int) with | (lo, hi) => pure (lo, (1 : Int), Builtin.Slice.slicePlaces lo hi 1)) _ _ s
  rw [adjust_gen lo hi n]
  show wpAny _ _ (pure (((sIx n 0 lo : Nat) : Int), (1 : Int), Builtin.Slice.slicePlaces ((sIx n 0 lo : Nat) : Int) ((sIx n n hi : Nat) : Int) 1)) _ _ s
  rw [places_gen]
  exact wpAny_pure h
theorem pick_gen (xs : Array Value) (i k : Nat) : ((List.range k).filterMap fun (m : Nat) => xs[((i : Int) + (m : Int) * 1).toNat]?).toArray = ((xs.toList.drop i).take k).toArray := by
  have e : (fun (m : Nat) => xs[((i : Int) + (m : Int) * 1).toNat]?) = fun m => xs[i + m]? := by
    funext m
    have : ((i : Int) + (m : Int) * 1).toNat = i + m := by omega
    rw [this]
  rw [e]
  have := pick_run xs i k
  rw [List.filterMap_map] at this
  have e2 : ((fun x => xs[x]?) ∘ fun x => i + x) = fun m => xs[i + m]? := rfl
  rw [e2] at this
  rw [this]
theorem getItem_tuple_cut {t sl : Addr} {items : Array Value} {vl vu : Value} {lo hi : Option Int} {Q : Value → Shared → Prop} (ht : IsTup s.heap t items) (hs : s.heap.IsSliceOf sl vl vu .none) (pl : IsPart vl lo) (pu : IsPart vu hi)
    (hw : ¬ (sIx items.size 0 lo = 0 ∧ sIx items.size items.size hi = items.size))
    (h : Q (.ref s.heap.objs.size) { s with heap := s.heap.push { cls := .type "tuple", data := .seq ((items.toList.drop (sIx items.size 0 lo)).take (sIx items.size items.size hi - sIx items.size 0 lo)).toArray } })
    (hsz : items.size ≤ sizeLine) : wpAny (model prog w) A (getItem (.ref t) (.ref sl)) Q E s := by
  have htake : sizeOk (.seq ((items.toList.drop (sIx items.size 0 lo)).take (sIx items.size items.size hi - sIx items.size 0 lo)).toArray) := by
    show ((items.toList.drop (sIx items.size 0 lo)).take (sIx items.size items.size hi - sIx items.size 0 lo)).toArray.size ≤ sizeLine
    rw [List.size_toArray, List.length_take, List.length_drop, Array.length_toList]
    omega
  have hj : sIx items.size items.size hi ≤ items.size := sIx_le _ _ (Nat.le_refl _) hi
  obtain ⟨os, hos, hcs, hds⟩ := id hs
  have hTs : s.TypeIs (.ref sl) "slice" := ⟨os, hos, hcs⟩
  unfold getItem
  try with_reducible refine wpAny_holding ?_
  first | refine wpAny_bind (wpAny_pure ?_) | skip
  refine wpAny_bind (wpAny_sequenceKey ht.typeIs (by decide) ?_)
  refine wpAny_bind (wpAny_callSpecial?_slot (name := Str.ofString "__getitem__") ht.typeIs PyProof.Rows.slot_tuple_getitem
    (wpAny_call_entry PyProof.Rows.slot_tuple_getitem ht.typeIs entry_tuple_getitem ?_ (args_tuple_getitem _ _)))
  show wpAny _ _ (Builtin.Tuple.tupleItemsOf (.ref t) >>= _) _ _ s
  refine wpAny_bind (tupleItemsOf_ ht ?_)
  refine wpAny_bind (wpAny_typeOf hTs ?_)
  rw [if_pos (by decide)]
  refine wpAny_bind (sliceApplied_gen hs pl pu ?_)
  have hno : ¬ ((((sIx items.size 0 lo : Nat) : Int) == 0 && (1 : Int) == 1 && (sIx items.size items.size hi - sIx items.size 0 lo) == items.size) = true) := by
    intro q
    rw [Bool.and_eq_true, Bool.and_eq_true] at q
    have q1 : ((sIx items.size 0 lo : Nat) : Int) = 0 := eq_of_beq q.1.1
    have q2 : sIx items.size items.size hi - sIx items.size 0 lo = items.size := eq_of_beq q.2
    exact hw ⟨by omega, by omega⟩
  show wpAny _ _ (if (((sIx items.size 0 lo : Nat) : Int) == 0 && (1 : Int) == 1 && (sIx items.size items.size hi - sIx items.size 0 lo) == items.size) = true then _ else _) _ _ s
  rw [if_neg hno, pick_gen]
  first
    | exact wpAny_bind (m := Builtin.Tuple.tupleExact _) (wpAny_newObj_type (wpAny_pure ⟨_, rfl, wpAny_pure h⟩) htake)
    | exact wpAny_bind (m := Builtin.Tuple.tupleExact _) (wpAny_newObj_type (wpAny_bind (wpAny_pure (wpAny_pure ⟨_, rfl, wpAny_pure h⟩))) htake)
    | exact wpAny_bind (wpAny_bind (m := Builtin.Tuple.tupleExact _) (wpAny_newObj_type (wpAny_pure (wpAny_pure ⟨_, rfl, wpAny_pure h⟩)) htake))
    | exact wpAny_bind (wpAny_bind (m := Builtin.Tuple.tupleExact _) (wpAny_newObj_type (wpAny_pure ⟨_, rfl, wpAny_pure h⟩) htake))
end
end HT
namespace L2
open PySem PySem.Spec PyProof.Rows
noncomputable abbrev TO := St → Hp → (Option Int → Hp → Prop) → Prop
noncomputable def PO (X : Cx) (e : Option Expr) (t : TO) : Prop :=
  ∀ (pins : List (Addr × Obj)) (s : Shared) (σ : St) (H : Hp) (Q : Option Int → Hp → Prop), Inv X pins σ H s → t σ H Q →
    wpAny (model X.prog X.w) X.A (evalPart e X.env) (fun u s' => ∃ o H', Inv X pins σ H' s' ∧ IsPart u o ∧ Q o H') X.xe s
noncomputable def tNoPart : TO := fun _ H Q => Q none H
noncomputable def tPart (t : TE) : TO := fun σ H Q => t σ H fun x H1 => ∃ i, x = .int i ∧ Q (some i) H1
theorem intsAre_of {ns : List Int} : ∀ {us : List Value}, Vals (ns.map V.int) us → IntsAre us ns := by
  induction ns with
  | nil => intro us r; rw [List.map_nil] at r; cases r; exact .nil
  | cons n ns ih =>
    intro us r
    rw [List.map_cons] at r
    cases r with
    | cons r1 r2 =>
      obtain ⟨t, e⟩ := r1
      subst e
      exact .cons n t (ih r2)
section
variable {X : Cx} {e : Expr} {te : TE} {lo hi : Option Expr} {tl th : TO} {pos p2 : Pos}
theorem po_none : PO X none tNoPart := by
  intro pins s σ H Q I h
  rw [evalPart_none]
  exact wpAny_pure ⟨none, H, I, .none, h⟩
theorem po_some (h : PE X e te) : PO X (some e) (tPart te) := by
  intro pins s σ H Q I hw
  rw [evalPart_some]
  refine thn (h pins s σ H _ I hw) fun u s1 ⟨x, H1, I1, r1, q1⟩ => ?_
  obtain ⟨i, rfl, q⟩ := q1
  obtain ⟨t, rfl⟩ := r1
  exact ⟨some i, H1, I1, .int i t, q⟩
noncomputable def SlR (X : Cx) (r : V → Option Int → Option Int → Hp → VK → Prop) : Prop :=
  ∀ (pins : List (Addr × Obj)) (s : Shared) (σ : St) (H : Hp) (x : V) (v vl vu : Value) (lo hi : Option Int) (sl : Addr) (Q : VK), Inv X pins σ H s → RelV x v → s.heap.IsSliceOf sl vl vu .none → IsPart vl lo → IsPart vu hi → r x lo hi H Q →
    ∃ T id, typeLookup (.type T) "__getitem__" = pure (some (.builtin id)) ∧ s.TypeIs v T ∧ wpAny (model X.prog X.w) X.A (getItem v (.ref sl)) (EP X pins σ Q) X.xe s
noncomputable def tSl (r : V → Option Int → Option Int → Hp → VK → Prop) (te : TE) (tl th : TO) : TE := fun σ H Q => te σ H fun x H1 => tl σ H1 fun l H2 => th σ H2 fun u H3 => r x l u H3 Q
theorem pe_slice {r : V → Option Int → Option Int → Hp → VK → Prop} (hr : SlR X r) (he : PE X e te) (hl : PO X lo tl) (hu : PO X hi th) : PE X (.Subscript e (.Slice lo hi none p2) pos) (tSl r te tl th) := by
  intro pins s σ H Q I h
  refine Subscript_ (thn (he pins s σ H _ I h) fun v s1 ⟨x, H1, I1, r1, q1⟩ => ?_)
  refine wpAny_Slice (thn (hl pins s1 σ H1 _ I1 q1) fun vl s2 ⟨l, H2, I2, pl, q2⟩ => thn (hu pins s2 σ H2 _ I2 q2) fun vu s3 ⟨u, H3, I3, pu, q3⟩ => ?_)
  rw [evalPart_none]
  refine wpAny_pure ?_
  have I4 : Inv X pins σ H3 { s3 with heap := s3.heap.push { cls := .type "slice", data := .fields #[vl, vu, .none] } } := I3.kept (t' := s3.toks) fun b ob q => Heap.get?_push_of_some _ q
  obtain ⟨T, id, hT, ht, hg⟩ := hr pins { s3 with heap := s3.heap.push { cls := .type "slice", data := .fields #[vl, vu, .none] } } σ H3 x v vl vu l u s3.heap.objs.size Q I4 r1 (Heap.IsSliceOf.new ..) pl pu q3
  show wpAny (model X.prog X.w) X.A (subscriptTail e (.Slice lo hi none p2) v (.ref s3.heap.objs.size)) (EP X pins σ Q) X.xe { s3 with heap := s3.heap.push { cls := .type "slice", data := .fields #[vl, vu, .none] } }
  exact tail_any (ops := [.ref s3.heap.objs.size, v]) ht hT hg (by with_unfolding_all rfl)
noncomputable def cutV (xs : List V) (lo hi : Option Int) : List V := (xs.drop (HT.sIx xs.length 0 lo)).take (HT.sIx xs.length xs.length hi - HT.sIx xs.length 0 lo)
theorem cutV_length (xs : List V) (lo hi : Option Int) : (cutV xs lo hi).length ≤ xs.length := by
  unfold cutV
  rw [List.length_take, List.length_drop]
  omega
noncomputable def rSlT (K : PySem.W.Frag) : V → Option Int → Option Int → Hp → VK → Prop := fun x lo hi H Q => ∃ a xs, x = .ref a ∧ SqT K H a xs ∧
  ¬ (HT.sIx xs.length 0 lo = 0 ∧ HT.sIx xs.length xs.length hi = xs.length) ∧ ∀ p, H p = none → Q (.ref p) (upd H p (.tup (cutV xs lo hi)))
theorem sl_tup : SlR X (rSlT X.K) := by
  intro pins s σ H x v vl vu lo hi sl Q I rx hs pl pu h
  obtain ⟨a, xs, rfl, hx, hw, q⟩ := h
  cases rx
  obtain ⟨its, r, ht, hz⟩ := I.tuple hx
  have hlen : its.toArray.size = xs.length := by rw [List.size_toArray]; exact r.length.symm
  refine ⟨"tuple", _, PyProof.Rows.slot_tuple_getitem.lookup, ht.typeIs, ?_⟩
  refine HT.getItem_tuple_cut ht hs pl pu (by rw [hlen]; exact hw) ?_ (by rw [hlen]; exact hz)
  rw [hlen]
  refine ⟨.ref s.heap.objs.size, _, I.laid (t' := s.toks) (o := .tup (cutV xs lo hi)) (fun b ob q => Heap.get?_push_of_some _ q) (Nat.le_refl _) ?_, rfl, q _ (I.hok.fresh (Nat.le_refl _))⟩
  exact ⟨Nat.le_trans (cutV_length xs lo hi) hz, _, (r.drop (HT.sIx xs.length 0 lo)).take (HT.sIx xs.length xs.length hi - HT.sIx xs.length 0 lo), IsTupN.new _ _⟩
end
end L2
namespace L2
open PySem PySem.Spec PyProof.Rows
noncomputable def ixN (n : Nat) (i : Int) : Option Nat := if 0 ≤ i then (if i < n then some i.toNat else none) else if -(n : Int) ≤ i then some (i + n).toNat else none
noncomputable def atI {α : Type} (xs : List α) (i : Int) : Option α := (ixN xs.length i).bind fun j => xs[j]?
theorem ixN_seq {n : Nat} {i : Int} {j : Nat} (h : ixN n i = some j) : seqIndex? i n = some j ∧ j < n ∧ -(n : Int) ≤ i ∧ i < n := by
  unfold ixN at h
  by_cases h0 : 0 ≤ i
  · rw [if_pos h0] at h
    by_cases h1 : i < n
    · rw [if_pos h1] at h
      have e : i.toNat = j := Option.some.inj h
      exact ⟨by rw [seqIndex_of h0 h1, e], by omega, by omega, h1⟩
    · rw [if_neg h1] at h; cases h
  · rw [if_neg h0] at h
    by_cases h1 : -(n : Int) ≤ i
    · rw [if_pos h1] at h
      have e : (i + n).toNat = j := Option.some.inj h
      exact ⟨by rw [seqIndex_neg (by omega) h1, e], by omega, h1, by omega⟩
    · rw [if_neg h1] at h; cases h
theorem atI_get {α : Type} {xs : List α} {i : Int} {v : α} (h : atI xs i = some v) : ∃ j, seqIndex? i xs.length = some j ∧ xs[j]? = some v ∧ j < xs.length ∧ -(xs.length : Int) ≤ i ∧ i < xs.length := by
  unfold atI at h
  cases e : ixN xs.length i with
  | none => rw [e] at h; cases h
  | some j =>
    rw [e] at h
    obtain ⟨h1, h2, h3, h4⟩ := ixN_seq e
    exact ⟨j, h1, h, h2, h3, h4⟩
theorem atI_nat {α : Type} {xs : List α} {j : Nat} {v : α} (h : xs[j]? = some v) : atI xs (j : Int) = some v := by
  have hj : j < xs.length := (List.getElem?_eq_some_iff.mp h).1
  have e : ixN xs.length (j : Int) = some j := by
    unfold ixN
    rw [if_pos (by omega), if_pos (by omega)]; simp
  unfold atI; rw [e]; exact h
noncomputable def PlainIx (b : Expr) : Prop := ∀ o i, subscripted b false o i = operate [o, i] (getItem o i)
noncomputable def IxR (X : Cx) (r : R2) : Prop :=
  ∀ (value slice : Expr) (pins : List (Addr × Obj)) (s : Shared) (σ : St) (H : Hp) (x y : V) (v u : Value) (Q : VK), Inv X pins σ H s → RelV x v → RelV y u → r x y H Q →
    subscripted slice false v u = operate [v, u] (getItem v u) → wpAny (model X.prog X.w) X.A (subscriptTail value slice v u) (EP X pins σ Q) X.xe s
section
variable {X : Cx} {a b : Expr} {ta tb : TE} {pos : Pos}
theorem pe_ix {r : R2} (hr : IxR X r) (ha : PE X a ta) (hb : PE X b tb) (hs : PlainIx b) : PE X (.Subscript a b pos) (tOp r ta tb) := by
  intro pins s σ H Q I h
  exact Subscript_ (binT ha hb I h fun v u s2 x y H2 I2 rx ry q => hr a b pins s2 σ H2 x y v u Q I2 rx ry q (hs _ _))
noncomputable def rIxL (K : PySem.W.Frag) : R2 := fun x y H Q => ∃ p xs i v, x = .ref p ∧ y = .int i ∧ SqL K H p xs ∧ atI xs i = some v ∧ Q v H
noncomputable def rIxT (K : PySem.W.Frag) : R2 := fun x y H Q => ∃ p xs i v, x = .ref p ∧ y = .int i ∧ SqT K H p xs ∧ atI xs i = some v ∧ Q v H
theorem ix_list : IxR X (rIxL X.K) := by
  intro value slice pins s σ H x y v u Q I rx ry h hs
  obtain ⟨p, xs, i, z, rfl, rfl, hq, he, q⟩ := h
  cases rx
  obtain ⟨t, rfl⟩ := ry
  obtain ⟨its, r, pl, hz⟩ := I.list hq
  obtain ⟨j, h1, h2, h3, h4, h5⟩ := atI_get he
  obtain ⟨w, ew, rw'⟩ := r.get h2
  have hl := r.length
  have hn := line63
  have fin : EP X pins σ Q w s := ⟨z, H, I, rw', q⟩
  by_cases h0 : 0 ≤ i
  · have hj : i.toNat = j := by
      rw [seqIndex_of h0 h5] at h1
      exact Option.some.inj h1
    exact item_listR pl.isList h0 (by omega) (by rw [hj]; simpa using ew) fin hs
  · have hj : (i + (its.toArray.size : Int)).toNat = j := by
      rw [seqIndex_neg (by omega) h4] at h1
      rw [List.size_toArray, ← hl]
      exact Option.some.inj h1
    exact subscriptTail_builtinR (x := w) pl.isList.typeIs slot_list_getitem.lookup
      (wpAny_getItem_list_neg (Q := fun r s' => r = w ∧ EP X pins σ Q r s') pl.isList (by omega) (by rw [List.size_toArray] <;> omega) (by omega) (by rw [hj]; simpa using ew) ⟨rfl, fin⟩) hs
theorem ix_tup : IxR X (rIxT X.K) := by
  intro value slice pins s σ H x y v u Q I rx ry h hs
  obtain ⟨p, xs, i, z, rfl, rfl, hq, he, q⟩ := h
  cases rx
  obtain ⟨t, rfl⟩ := ry
  obtain ⟨its, r, pl, hz⟩ := I.tuple hq
  obtain ⟨j, h1, h2, h3, h4, h5⟩ := atI_get he
  obtain ⟨w, ew, rw'⟩ := r.get h2
  have hl := r.length
  have hn := line63
  have fin : EP X pins σ Q w s := ⟨z, H, I, rw', q⟩
  exact subscriptTail_builtinR (x := w) pl.typeIs slot_tuple_getitem.lookup
    (getItem_tuple (j := j) (Q := fun r s' => r = w ∧ EP X pins σ Q r s') pl (by omega) (by omega) (by rw [List.size_toArray, ← hl]; exact h1) (by simpa using ew) ⟨rfl, fin⟩) hs
theorem mapSeq_set (its : List Value) (n j : Nat) (u : Value) : Obj.mapSeq (·.setIfInBounds j u) { cls := .type "list", data := .seq its.toArray n } = { cls := .type "list", data := .seq (its.set j u).toArray n } := by
  simp [Obj.mapSeq]
theorem Inv.lst {pins : List (Addr × Obj)} {σ : St} {H : Hp} {s : Shared} {p : Addr} {xs : List V} (I : Inv X pins σ H s) (h : H p = some (.lst xs)) :
    ∃ (its : List Value) (n : Nat), Vals xs its ∧ s.heap.get? p = some { cls := .type "list", data := .seq its.toArray n } ∧ xs.length ≤ sizeLine := by
  obtain ⟨z, its, n, r, e⟩ := I.hok p _ h
  exact ⟨its, n, r, e, z⟩
theorem Inv.lstUpd {pins : List (Addr × Obj)} {σ : St} {H : Hp} {s : Shared} {p : Addr} {xs ys : List V} {its its' : List Value} {n n' : Nat} {f : Obj → Obj} (I : Inv X pins σ H s) (h : H p = some (.lst xs))
    (ho : s.heap.get? p = some { cls := .type "list", data := .seq its.toArray n }) (hf : f { cls := .type "list", data := .seq its.toArray n } = { cls := .type "list", data := .seq its'.toArray n' }) (r : Vals ys its') (hz : ys.length ≤ sizeLine) (t : Nat) :
    Inv X pins σ (upd H p (.lst ys)) { s with heap := s.heap.update p f, toks := t } := by
  have e : (s.heap.update p f).get? p = some { cls := .type "list", data := .seq its'.toArray n' } := by
    rw [Heap.get?_update_self f ho (by rw [hf] <;> rfl), hf]
  refine I.write (x := p) (e := p) (by rw [h]; trivial) (.inl rfl) (fun b u hb q => (Heap.get?_update_other _ _ (Ne.symm hb)).trans q) ⟨_, e⟩ ?_
  exact ⟨hz, its', n', r, e⟩
noncomputable def rSetL : V → V → V → Hp → (Hp → Prop) → Prop := fun o i v H Q => ∃ p xs k j, o = .ref p ∧ i = .int k ∧ H p = some (.lst xs) ∧ ixN xs.length k = some j ∧ Q (upd H p (.lst (xs.set j v)))
theorem set_list : PSet X rSetL := by
  intro pins s σ H o i v ov iv u Q I ro ri rv h
  obtain ⟨p, xs, k, j, rfl, rfl, hp, hj, q⟩ := h
  cases ro
  obtain ⟨t, rfl⟩ := ri
  obtain ⟨its, n, r, ho, hz⟩ := I.lst hp
  obtain ⟨h1, h2, h3, h4⟩ := ixN_seq hj
  have hl := r.length
  have hn := line63
  have I' : Inv X pins σ (upd H p (.lst (xs.set j v))) { s with heap := s.heap.update p (Obj.mapSeq (·.setIfInBounds j u)) } :=
    I.lstUpd hp ho (mapSeq_set its n j u) (r.set rv j) (by rw [List.length_set]; exact hz) s.toks
  by_cases h0 : 0 ≤ k
  · have hk : k.toNat = j := by
      rw [seqIndex_of h0 h4] at h1
      exact Option.some.inj h1
    exact PySem.W.ki_setAt ho h0 (by omega) (by rw [List.size_toArray, ← hl]; exact h4) (by rw [hk]; exact ⟨_, I', q⟩)
  · have hk : (k + (its.toArray.size : Int)).toNat = j := by
      rw [seqIndex_neg (by omega) h3] at h1
      rw [List.size_toArray, ← hl]
      exact Option.some.inj h1
    exact PySem.W.ki_setBack ho (by omega) (by rw [List.size_toArray, ← hl]; exact h3) (by omega) (by rw [hk]; exact ⟨_, I', q⟩)
theorem call_len_seq : CallR X (.builtin "len") (fun xs H Q => ∃ p ys, xs = [.ref p] ∧ (SqL X.K H p ys ∨ SqT X.K H p ys) ∧ Q (.int ys.length) H) := by
  intro pins s σ H xs us Q I r h
  obtain ⟨p, ys, rfl, hq, q⟩ := h
  obtain ⟨u, rfl, rx⟩ := vals1 r
  cases rx
  have hn := line63
  rcases hq with hq | hq
  · obtain ⟨its, r', pl, hz⟩ := I.list hq
    have hlen := r'.length
    exact Calls.call_len_list pl.isList (by simp only [List.size_toArray] <;> omega) ⟨.int ys.length, H, I.tok _, ⟨s.toks + 1, by rw [List.size_toArray, hlen]⟩, q⟩
  · obtain ⟨its, r', pl, hz⟩ := I.tuple hq
    have hlen := r'.length
    exact len_tuple pl (by simp only [List.size_toArray] <;> omega) ⟨.int ys.length, H, I.tok _, ⟨s.toks + 1, by rw [List.size_toArray, hlen]⟩, q⟩
theorem call_list_of : CallR X (.type "list") (fun xs H Q => ∃ p ys, xs = [.ref p] ∧ (SqL X.K H p ys ∨ SqT X.K H p ys) ∧ ∀ l, H l = none → Q (.ref l) (upd H l (.lst ys))) := by
  intro pins s σ H xs us Q I r h
  obtain ⟨p, ys, rfl, hq, q⟩ := h
  obtain ⟨u, rfl, rx⟩ := vals1 r
  cases rx
  have fin : ∀ (its : List Value), Vals ys its → ys.length ≤ sizeLine → ∀ (h' : Heap) (c' : Nat), (∀ b o', s.heap.get? b = some o' → h'.get? b = some o') →
      h'.get? s.heap.objs.size = some { cls := .type "list", dict := none, data := .seq its.toArray c', slots := #[] } → EP X pins σ Q (.ref s.heap.objs.size) { s with heap := h' } := fun its r' hz h' c' kp e =>
    ⟨.ref s.heap.objs.size, _, I.laid (t' := s.toks) kp (Nat.le_refl _) (show ObjOk X.prog X.w _ h' _ (.lst ys) from ⟨hz, its, c', r', e⟩), rfl, q _ (I.hok.fresh (Nat.le_refl _))⟩
  rcases hq with hq | hq
  · obtain ⟨its, r', pl, hz⟩ := I.list hq
    have hlen := r'.length
    obtain ⟨o, ho, hc, n, hd⟩ := pl.isList
    exact call_list_seq p (.inl rfl) ho hc hd (fun h' c' kp e => fin its r' hz h' c' kp e) (by simp only [List.size_toArray] <;> omega)
  · obtain ⟨its, r', pl, hz⟩ := I.tuple hq
    have hlen := r'.length
    obtain ⟨o, ho, hc, n, hd⟩ := pl
    exact call_list_seq p (.inr rfl) ho hc hd (fun h' c' kp e => fin its r' hz h' c' kp e) (by simp only [List.size_toArray] <;> omega)
theorem call_tuple_of : CallR X (.type "tuple") (fun xs H Q => ∃ p ys, xs = [.ref p] ∧ ((SqL X.K H p ys ∧ ∀ l, H l = none → Q (.ref l) (upd H l (.tup ys))) ∨ (SqT X.K H p ys ∧ Q (.ref p) H))) := by
  intro pins s σ H xs us Q I r h
  obtain ⟨p, ys, rfl, h⟩ := h
  obtain ⟨u, rfl, rx⟩ := vals1 r
  cases rx
  rcases h with ⟨hq, q⟩ | ⟨hq, q⟩
  · obtain ⟨its, r', pl, hz⟩ := I.list hq
    have hlen := r'.length
    refine call_tuple_list pl.isList (fun h' kp => ?_) (by simp only [List.size_toArray] <;> omega)
    have I1 : Inv X pins σ H { s with heap := h' } := I.kept (t' := s.toks) kp
    have I2 : Inv X pins σ (upd H h'.objs.size (.tup ys)) { s with heap := h'.push { cls := .type "tuple", data := .seq its.toArray } } :=
      I1.laid (t' := s.toks) (fun b o e => Heap.get?_push_of_some _ e) (Nat.le_refl _) (show ObjOk X.prog X.w _ _ _ (.tup ys) from ⟨hz, its, r', IsTupN.new _ _⟩)
    exact ⟨.ref h'.objs.size, _, I2, rfl, q _ (I1.hok.fresh (Nat.le_refl _))⟩
  · obtain ⟨its, r', pl, hz⟩ := I.tuple hq
    exact call_tuple_same pl ⟨.ref p, H, I, rfl, q⟩
variable {o e : Expr} {es : List Expr} {to : TE} {t : TA} {name : Str} {apos cpos : Pos} {T id : String} {r : V → List V → Hp → VK → Prop}
/- xs.append(e), list.index on a module's tuple .. are MtR facts of 06m -/
end
end L2
namespace L2
open PySem PySem.Spec PyProof.Rows
noncomputable def MtM (X : Cx) (id : String) (r : V → List V → Hp → VK → Prop) : Prop :=
  ∀ (pins : List (Addr × Obj)) (s : Shared) (σ : St) (H : Hp) (x : V) (xs : List V) (v : Value) (us : List Value) (Q : VK), Inv X pins σ H s → RelV x v → Vals xs us → r x xs H Q →
    wpAny (model X.prog X.w) X.A (call (.builtin id) (v :: us)) (EP X pins σ Q) X.xe s
theorem Vals.one : ∀ {x : V} {us : List Value}, Vals [x] us → ∃ u, us = [u] ∧ RelV x u
  | _, _, .cons r .nil => ⟨_, rfl, r⟩
theorem Vals.rep {xs : List V} {us : List Value} (h : Vals xs us) : ∀ k : Nat, Vals (List.replicate k xs).flatten (List.replicate k us).flatten
  | 0 => .nil
  | k + 1 => by
    rw [List.replicate_succ, List.replicate_succ, List.flatten_cons, List.flatten_cons]
    exact Vals.append h (Vals.rep h k)
theorem foldl_rep (its : List Value) : ∀ (k : Nat) (acc : List Value),
    List.foldl (fun x1 x2 => x1 ++ x2) acc.toArray (List.replicate k its.toArray) = (acc ++ (List.replicate k its).flatten).toArray
  | 0, acc => by simp
  | k + 1, acc => by
    have e : acc.toArray ++ its.toArray = (acc ++ its).toArray := by simp
    have e2 : (acc ++ its) ++ (List.replicate k its).flatten = acc ++ (List.replicate (k + 1) its).flatten := by
      rw [List.replicate_succ, List.flatten_cons, List.append_assoc]
    rw [← e2, ← foldl_rep its k (acc ++ its), ← e, List.replicate_succ, List.foldl_cons]
section
variable {X : Cx} {pins : List (Addr × Obj)} {σ : St} {H : Hp} {s : Shared} {l b : Addr} {xs ys zs : List V}
theorem Inv.lset {its its' : List Value} {n : Nat} {f : Array Value → Array Value} {t' : Nat} (I : Inv X pins σ H s) (hH : H l = some (.lst xs))
    (e : s.heap.get? l = some { cls := .type "list", data := .seq its.toArray n }) (hf : f its.toArray = its'.toArray) (hv : Vals ys its') (hz : ys.length ≤ sizeLine) :
    Inv X pins σ (upd H l (.lst ys)) { s with heap := s.heap.update l (Obj.mapSeq f), toks := t' } := by
  have q := PySem.IsL.update e f
  rw [hf] at q
  refine I.write (x := l) (e := l) (by rw [hH]; exact trivial) (.inl rfl) (fun b' u hb hu => (Heap.get?_update_other s.heap (Obj.mapSeq f) (Ne.symm hb)).trans hu) ⟨_, q⟩ ?_
  exact ⟨hz, its', _, hv, q⟩
theorem Inv.lnew {its : List Value} {t' : Nat} (I : Inv X pins σ H s) (hv : Vals ys its) (hz : ys.length ≤ sizeLine) :
    Inv X pins σ (upd H s.heap.objs.size (.lst ys)) { s with heap := s.heap.push { cls := .type "list", data := .seq its.toArray }, toks := t' } :=
  I.laid (fun _ _ q => Heap.get?_push_of_some _ q) (Nat.le_refl _) ⟨hz, its, 0, hv, Heap.get?_push_size _ rfl⟩
theorem Inv.fresh (I : Inv X pins σ H s) : H s.heap.objs.size = none := I.hok.fresh (Nat.le_refl _)
theorem Inv.lstM (I : Inv X pins σ H s) (hH : H l = some (.lst xs)) : xs.length ≤ sizeLine ∧ ∃ (its : List Value) (n : Nat), Vals xs its ∧ xs.length = its.length ∧ s.heap.get? l = some { cls := .type "list", data := .seq its.toArray n } := by
  obtain ⟨z, its, n, r, e⟩ := I.hok l _ hH
  exact ⟨z, its, n, r, r.length, e⟩
theorem notLongL {n : Nat} (h : n ≤ sizeLine) : Builtin.List.listTooLong n = false := by
  unfold Builtin.List.listTooLong
  exact decide_eq_false (by omega)
end
section
variable {X : Cx}
noncomputable def rAppend : V → List V → Hp → VK → Prop := fun x vs H Q => ∃ l xs y, x = .ref l ∧ vs = [y] ∧ H l = some (.lst xs) ∧ xs.length < sizeLine ∧ Q .non (upd H l (.lst (xs ++ [y])))
theorem mt_append : MtM X "list.append" rAppend := by
  intro pins s σ H x vs v us Q I rx rv h
  obtain ⟨l, xs, y, rfl, rfl, hH, hz, q⟩ := h
  cases rx
  obtain ⟨u, rfl, ru⟩ := rv.one
  obtain ⟨z, its, n, r, hl, e⟩ := I.lstM hH
  refine call_meets F.slot_list_append ⟨_, e, rfl⟩ F.entry_list_append (F.args_list_append_2 _ _) (PySem.list_append l its.toArray n u (by rw [List.size_toArray]; omega)) ⟨e, ?_⟩
  refine ⟨.non, _, I.lset (its' := its ++ [u]) hH e (by simp) (r.append (.cons ru .nil)) ?_, rfl, q⟩
  rw [List.length_append, List.length_singleton]
  omega
noncomputable def rCat : R2 := fun x y H Q => ∃ l b xs zs, x = .ref l ∧ y = .ref b ∧ H l = some (.lst xs) ∧ H b = some (.lst zs) ∧ xs.length + zs.length ≤ sizeLine ∧ ∀ p, H p = none → Q (.ref p) (upd H p (.lst (xs ++ zs)))
theorem op_cat : OpR X (binaryOp .Add) rCat := by
  intro pins s σ H x y v u Q I rx ry h
  obtain ⟨l, b, xs, zs, rfl, rfl, hH, hB, hz, q⟩ := h
  cases rx
  cases ry
  obtain ⟨z, its, n, r, hl, e⟩ := I.lstM hH
  obtain ⟨z2, its2, n2, r2, hl2, e2⟩ := I.lstM hB
  refine PySem.P.add_list e e2 ?_ (by rw [List.size_toArray, List.size_toArray]; omega)
  have ea : its.toArray ++ its2.toArray = (its ++ its2).toArray := by simp
  rw [ea]
  exact ⟨.ref _, _, I.lnew (t' := s.toks) (r.append r2) (by rw [List.length_append]; omega), rfl, q _ I.fresh⟩
noncomputable def rRep : R2 := fun x y H Q => ∃ l k xs, x = .ref l ∧ y = .int k ∧ H l = some (.lst xs) ∧ -(2 ^ 63) ≤ k ∧ k < 2 ^ 63 ∧ xs.length * k.toNat ≤ sizeLine ∧
  ∀ p, H p = none → Q (.ref p) (upd H p (.lst (List.replicate k.toNat xs).flatten))
theorem len_rep {α : Type} (xs : List α) (k : Nat) : (List.replicate k xs).flatten.length = k * xs.length := by
  induction k with
  | zero => simp
  | succ k ih => rw [List.replicate_succ, List.flatten_cons, List.length_append, ih, Nat.succ_mul, Nat.add_comm]
theorem op_rep : OpR X (binaryOp .Mult) rRep := by
  intro pins s σ H x y v u Q I rx ry h
  obtain ⟨l, k, xs, rfl, rfl, hH, h1, h2, hz, q⟩ := h
  cases rx
  obtain ⟨t, rfl⟩ := ry
  obtain ⟨z, its, n, r, hl, e⟩ := I.lstM hH
  have hlen : its.toArray.size * k.toNat ≤ sizeLine := by rw [List.size_toArray, ← hl]; exact hz
  have hcap : ¬ its.toArray.size * k.toNat > (2 ^ 63 - 1) / 8 := by
    have : (sizeLine : Nat) ≤ (2 ^ 63 - 1) / 8 := by decide
    omega
  have hfit : ¬ (!Builtin.List.listFitsIndex k) = true := by
    rw [fitsIndex_both h1 h2]
    exact Bool.false_ne_true
  have hlong : ¬ Builtin.List.listTooLong (its.toArray.size * k.toNat) = true := by
    rw [notLongL hlen]
    exact Bool.false_ne_true
  have hnew : List.foldl (fun x1 x2 => x1 ++ x2) #[] (List.replicate (if its.toArray.isEmpty = true then 0 else k.toNat) its.toArray) = (List.replicate k.toNat its).flatten.toArray := by
    have f0 : ∀ m : Nat, List.foldl (fun x1 x2 => x1 ++ x2) #[] (List.replicate m its.toArray) = (List.replicate m its).flatten.toArray := fun m => by
      have := foldl_rep its m []
      rw [List.nil_append] at this
      exact this
    rw [f0]
    cases its with
    | nil => simp
    | cons a r' => rw [if_neg (by simp)]
  refine wpAny_binaryOp_repeat_ref (T := "list") (U := "int") (by decide) ⟨_, e, rfl⟩ (fun s' => typeIs_int s' k t) noFill_list_mul F.fills_int_mul F.slot_int_rmul repeat_list F.slot_int_index.lookup
    (call_meets F.slot_int_rmul (typeIs_int s k t) F.entry_int_rmul (F.args_int_rmul_2 _ _) (int___rmul___int_list k t l its.toArray n)
      ⟨e, rfl, ⟨_, e, rfl⟩, call_meets F.slot_list_mul ⟨_, e, rfl⟩ F.entry_list_mul (F.args_list_mul_2 _ _) (AutoListH.list___mul___list_int_3 l its.toArray n k t hfit hcap hlong) ⟨e, ?_⟩⟩)
  rw [hnew]
  exact ⟨.ref _, _, I.lnew (t' := s.toks) (r.rep k.toNat) (by rw [len_rep, Nat.mul_comm]; exact hz), rfl, q _ I.fresh⟩
end
end L2
namespace L2
open PySem PySem.Spec PyProof.Rows
section
variable {κ : Type} [DecidableEq κ]
noncomputable def valV (kvs : List (κ × V)) (k : κ) : Option V := (kvs.find? fun kv => decide (kv.1 = k)).map (·.2)
noncomputable def putK (kvs : List (κ × V)) (k : κ) (v : V) : List (κ × V) :=
  if (kvs.any fun kv => decide (kv.1 = k)) = true then kvs.map (fun kv => if kv.1 = k then (kv.1, v) else kv) else kvs ++ [(k, v)]
theorem valV_pos {p : κ × V} {r : List (κ × V)} {k : κ} (e : p.1 = k) : valV (p :: r) k = some p.2 := by simp [valV, List.find?_cons, e]
theorem valV_neg {p : κ × V} {r : List (κ × V)} {k : κ} (e : ¬ p.1 = k) : valV (p :: r) k = valV r k := by simp [valV, List.find?_cons, e]
theorem valV_any (k : κ) : ∀ kvs : List (κ × V), (kvs.any fun kv => decide (kv.1 = k)) = (valV kvs k).isSome
  | [] => rfl
  | p :: r => by
    rw [List.any_cons]
    by_cases e : p.1 = k
    · simp only [valV_pos e, decide_eq_true e, Bool.true_or, Option.isSome_some]
    · rw [valV_neg e, decide_eq_false e, Bool.false_or]; exact valV_any k r
theorem length_putK (kvs : List (κ × V)) (k : κ) (v : V) : (putK kvs k v).length ≤ kvs.length + 1 := by
  unfold putK
  split
  · rw [List.length_map]; omega
  · rw [List.length_append, List.length_cons, List.length_nil]; omega
theorem RelO.isSome_eq {o : Option V} {u : Option Value} (r : RelO o u) : o.isSome = u.isSome := by
  cases o with
  | none => cases u with
    | none => rfl
    | some _ => exact (show False from r).elim
  | some _ => cases u with
    | none => exact (show False from r).elim
    | some _ => rfl
theorem RelO.getD {o : Option V} {u : Option Value} {d : V} {d' : Value} (r : RelO o u) (rd : RelV d d') : RelV (o.getD d) (u.getD d') := by
  cases o with
  | none => cases u with
    | none => exact rd
    | some _ => exact (show False from r).elim
  | some _ => cases u with
    | none => exact (show False from r).elim
    | some _ => exact r
theorem KV.val {kvs : List (κ × V)} {vs : List (κ × Value)} (r : KV kvs vs) (k : κ) : RelO (valV kvs k) (valueAt vs k) := by
  unfold KV at r
  induction r with
  | nil => exact True.intro
  | @cons p q ps qs h t ih =>
    obtain ⟨h1, h2⟩ := h
    by_cases e : p.1 = k
    · have e' : q.1 = k := h1.symm.trans e
      have b : valueAt (q :: qs) k = some q.2 := by simp [valueAt, List.find?_cons, e']
      rw [valV_pos e, b]; exact h2
    · have e' : ¬ q.1 = k := fun z => e (h1.trans z)
      have b : valueAt (q :: qs) k = valueAt qs k := by simp [valueAt, List.find?_cons, e']
      rw [valV_neg e, b]; exact ih
theorem KV.any {kvs : List (κ × V)} {vs : List (κ × Value)} (r : KV kvs vs) (k : κ) : (kvs.any fun kv => decide (kv.1 = k)) = vs.any fun kv => decide (kv.1 = k) := by
  unfold KV at r
  induction r with
  | nil => rfl
  | cons h t ih => rw [List.any_cons, List.any_cons, ih, h.1]
theorem KV.repl {kvs : List (κ × V)} {vs : List (κ × Value)} (r : KV kvs vs) (k : κ) {y : V} {u : Value} (ry : RelV y u) :
    KV (kvs.map fun kv => if kv.1 = k then (kv.1, y) else kv) (vs.map fun kv => if kv.1 = k then (kv.1, u) else kv) := by
  unfold KV at r ⊢
  induction r with
  | nil => exact .nil
  | @cons p q ps qs h t ih =>
    rw [List.map_cons, List.map_cons]
    refine .cons ?_ ih
    obtain ⟨h1, h2⟩ := h
    by_cases e : p.1 = k
    · rw [if_pos e, if_pos (h1.symm.trans e)]; exact ⟨h1, ry⟩
    · rw [if_neg e, if_neg (fun z => e (h1.trans z))]; exact ⟨h1, h2⟩
theorem KV.put {kvs : List (κ × V)} {vs : List (κ × Value)} (r : KV kvs vs) (k : κ) {y : V} {u : Value} (ry : RelV y u) : KV (putK kvs k y) (stored vs k u) := by
  unfold putK stored
  rw [r.any k]
  by_cases e : (vs.any fun kv => decide (kv.1 = k)) = true
  · rw [if_pos e, if_pos e]; exact r.repl k ry
  · rw [if_neg e, if_neg e]; exact Paired.snoc r ⟨rfl, ry⟩
theorem KV.length {kvs : List (κ × V)} {vs : List (κ × Value)} (r : KV kvs vs) : kvs.length = vs.length := Paired.length r
end
theorem kV_is {P : Program} {w : World} {k : Key} {u : Value} (r : RelV (kV k) u) : (mixKind P w).is k u = true := by
  cases k with
  | inl i => obtain ⟨t, e⟩ := (show ∃ t, u = Value.int i t from r); subst e; exact mixKind_int P w i t
  | inr x => obtain ⟨t, e⟩ := (show ∃ t, u = Value.str x t from r); subst e; exact mixKind_str P w x t
theorem items_are {P : Program} {w : World} : ∀ {ks : List Key} {us : List Value}, Vals (ks.map kV) us → ItemsAre (mixKind P w) ks us
  | [], _, r => by rw [List.map_nil] at r; cases r; exact .nil
  | k :: ks, _, r => by
    rw [List.map_cons] at r
    cases r with
    | cons h t => exact .cons (kV_is h) (items_are t)
noncomputable abbrev KT (H : Hp) : List (List Key × V) → List (List Key × Addr × Value) → Prop := Paired fun p q => p.1 = q.1 ∧ H q.2.1 = some (.tup (p.1.map kV)) ∧ RelV p.2 q.2.2
theorem KT.val {H : Hp} {kvs : List (List Key × V)} {xs : List (List Key × Addr × Value)} (r : KT H kvs xs) (k : List Key) : RelO (valV kvs k) ((atKey xs k).map (·.2)) := by
  induction r with
  | nil => exact True.intro
  | @cons p q ps qs h t ih =>
    obtain ⟨h1, _, h2⟩ := h
    by_cases e : p.1 = k
    · have e' : q.1 = k := h1.symm.trans e
      have b : atKey (q :: qs) k = some q.2 := by simp [atKey, List.find?_cons, e']
      rw [valV_pos e, b]; exact h2
    · have e' : ¬ q.1 = k := fun z => e (h1.trans z)
      have b : atKey (q :: qs) k = atKey qs k := by simp [atKey, List.find?_cons, e']
      rw [valV_neg e, b]; exact ih
theorem KT.repl {H : Hp} {kvs : List (List Key × V)} {xs : List (List Key × Addr × Value)} (r : KT H kvs xs) (k : List Key) {y : V} {u : Value} (ry : RelV y u) :
    KT H (kvs.map fun kv => if kv.1 = k then (kv.1, y) else kv) (xs.map (putAt k u)) := by
  induction r with
  | nil => exact .nil
  | @cons p q ps qs h t ih =>
    rw [List.map_cons, List.map_cons]
    refine .cons ?_ ih
    obtain ⟨h1, h2, h3⟩ := h
    unfold putAt
    by_cases e : p.1 = k
    · rw [if_pos e, if_pos (h1.symm.trans e)]; exact ⟨h1, h2, ry⟩
    · rw [if_neg e, if_neg (fun z => e (h1.trans z))]; exact ⟨h1, h2, h3⟩
theorem KT.put {H : Hp} {kvs : List (List Key × V)} {xs : List (List Key × Addr × Value)} (r : KT H kvs xs) (k : List Key) {b : Addr} {y : V} {u : Value} (hb : H b = some (.tup (k.map kV))) (ry : RelV y u) :
    KT H (putK kvs k y) (storedH xs k b u) := by
  have e : (kvs.any fun kv => decide (kv.1 = k)) = (atKey xs k).isSome := by
    rw [valV_any, (r.val k).isSome_eq, Option.isSome_map]
  unfold putK storedH
  rw [e]
  by_cases q : (atKey xs k).isSome = true
  · rw [if_pos q, if_pos q]; exact r.repl k ry
  · rw [if_neg q, if_neg q]; exact Paired.snoc r ⟨rfl, hb, ry⟩
theorem KT.keeps {H H' : Hp} {kvs : List (List Key × V)} {xs : List (List Key × Addr × Value)} (r : KT H kvs xs) (ht : ∀ b ys, H b = some (.tup ys) → H' b = some (.tup ys)) : KT H' kvs xs :=
  Paired.mapP r fun _ _ z => ⟨z.1, ht _ _ z.2.1, z.2.2⟩
section
variable {P : Program} {w : World} {H : Hp} {h : Heap} {a : Addr}
theorem rd_of {u : HO} (ok : HOk P w H h) (e : Rd H a u) : ObjOk P w H h a u := e.ok ok
theorem dk_rd {kvs : List (Key × V)} (ok : HOk P w H h) (e : Rd H a (.dK kvs)) : kvs.length ≤ sizeLine ∧ (a == sysModules) = false ∧ ∃ vs, KV kvs vs ∧ h.DictOf (mixKind P w) a vs :=
  show ObjOk P w H h a (.dK kvs) from rd_of ok e
theorem dk_of {kvs : List (Key × V)} (ok : HOk P w H h) (e : H a = some (.dK kvs)) : kvs.length ≤ sizeLine ∧ (a == sysModules) = false ∧ ∃ vs, KV kvs vs ∧ h.DictOf (mixKind P w) a vs := dk_rd ok (.inl e)
theorem key_of {ks : List Key} (ok : HOk P w H h) (e : H a = some (.tup (ks.map kV))) : (tupleKind (mixKind P w)).is h ks a := by
  obtain ⟨_, its, r, o, h1, h2, n, h3, _⟩ := (show ObjOk P w H h a (.tup (ks.map kV)) from ok a _ e)
  exact ⟨o, its.toArray, n, h1, h2, h3, by simpa using items_are r⟩
theorem dt_rd {kvs : List (List Key × V)} (ok : HOk P w H h) (e : Rd H a (.dT kvs)) : kvs.length ≤ sizeLine ∧ (a == sysModules) = false ∧
    ∃ xs, KT H kvs xs ∧ h.DictOfH (tupleKind (mixKind P w)) a xs := by
  obtain ⟨z, y, xs, r, o, es, ep, h1, h2, h3, h4, h5⟩ := (show ObjOk P w H h a (.dT kvs) from rd_of ok e)
  refine ⟨z, y, xs, r, o, es, ep, h1, h2, h3, h4, fun x hx => ?_, h5⟩
  have all : ∀ {l : List (List Key × V)} {m : List (List Key × Addr × Value)}, KT H l m → ∀ x ∈ m, (tupleKind (mixKind P w)).is h x.1 x.2.1 := by
    intro l m q
    induction q with
    | nil => intro x hx; exact nomatch hx
    | @cons p q ps qs hq t ih =>
      intro x hx
      rcases List.mem_cons.mp hx with e | hx
      · subst e
        exact key_of ok (by rw [← hq.1]; exact hq.2.1)
      · exact ih x hx
  exact all r x hx
theorem dt_of {kvs : List (List Key × V)} (ok : HOk P w H h) (e : H a = some (.dT kvs)) : kvs.length ≤ sizeLine ∧ (a == sysModules) = false ∧
    ∃ xs, KT H kvs xs ∧ h.DictOfH (tupleKind (mixKind P w)) a xs := dt_rd ok (.inl e)
end
noncomputable def DGet (H : Hp) (a : Addr) (y : V) (r : Option V) : Prop :=
  (∃ kvs k, Rd H a (.dK kvs) ∧ y = kV k ∧ r = valV kvs k) ∨ ∃ kvs k b, Rd H a (.dT kvs) ∧ y = .ref b ∧ H b = some (.tup (k.map kV)) ∧ r = valV kvs k
noncomputable def DPut (H : Hp) (a : Addr) (y v : V) (H' : Hp) : Prop :=
  (∃ kvs k, H a = some (.dK kvs) ∧ y = kV k ∧ kvs.length < sizeLine ∧ H' = upd H a (.dK (putK kvs k v))) ∨
  ∃ kvs k b, H a = some (.dT kvs) ∧ y = .ref b ∧ H b = some (.tup (k.map kV)) ∧ kvs.length < sizeLine ∧ H' = upd H a (.dT (putK kvs k v))
theorem DGet.t {H : Hp} {a b : Addr} {kvs : List (List Key × V)} {k : List Key} (e : H a = some (.dT kvs)) (eb : H b = some (.tup (k.map kV))) : DGet H a (.ref b) (valV kvs k) := .inr ⟨kvs, k, b, .inl e, rfl, eb, rfl⟩
theorem DPut.t {H : Hp} {a b : Addr} {kvs : List (List Key × V)} {k : List Key} {v : V} (e : H a = some (.dT kvs)) (eb : H b = some (.tup (k.map kV))) (hl : kvs.length < sizeLine) :
    DPut H a (.ref b) v (upd H a (.dT (putK kvs k v))) := .inr ⟨kvs, k, b, e, rfl, eb, hl, rfl⟩
section
variable {X : Cx} {pins : List (Addr × Obj)} {σ : St} {H : Hp} {s : Shared} {a : Addr} {y v : V} {u r : Value} {o : Option V} {A : Around} {E : Value → Shared → Prop}
theorem Inv.big (I : Inv X pins σ H s) : sysModules < s.heap.objs.size := by
  have h : mainGlobals < s.heap.objs.size := (I.mod.glob.keeps I.bk).lt
  exact Nat.lt_trans (by decide) h
theorem d_write {h' : Heap} {t' : Nat} {ob : HO} (I : Inv X pins σ H s) (mu : Mut (H a)) (hs : Heap.SameBut a s.heap h') (he : ∃ q, h'.get? a = some q) (new : ObjOk X.prog X.w (upd H a ob) h' a ob) :
    Inv X pins σ (upd H a ob) { s with heap := h', toks := t' } :=
  I.write (x := a) (e := a) mu (.inl rfl) (fun b q hb z => (hs.2 b hb).trans z) he new
theorem dk_new {P : Program} {w : World} {H' : Hp} {h' : Heap} {kvs : List (Key × V)} {vs : List (Key × Value)} (z : kvs.length ≤ sizeLine) (hd : (a == sysModules) = false) (rel : KV kvs vs) (dd : h'.DictOf (mixKind P w) a vs) :
    ObjOk P w H' h' a (.dK kvs) := ⟨z, hd, vs, rel, dd⟩
theorem d_setItem {H' : Hp} {Q : Unit → Shared → Prop} (hu : A.units + 1 < cLine) (I : Inv X pins σ H s) (g : DPut H a y v H') (ry : RelV y u) (rv : RelV v r) (h : ∀ s', Inv X pins σ H' s' → Q () s') :
    wpAny (model X.prog X.w) A (setItem (.ref a) u r) Q E s := by
  rcases g with ⟨kvs, k, e, ey, l, eH⟩ | ⟨kvs, k, b, e, ey, eb, l, eH⟩
  · subst ey eH
    obtain ⟨z, hd, vs, rel, dd⟩ := dk_of I.hok e
    have hz : vs.length ≤ sizeLine := by rw [← rel.length]; exact z
    have hl : (putK kvs k v).length ≤ sizeLine := by have := length_putK kvs k v; omega
    refine wpAny_setItem_pairs (hsz := hz) (kV_is ry) dd fun h' dd' hs => h _ ?_
    have he : ∃ q, h'.get? a = some q := let ⟨q, _, _, hq, _⟩ := dd'; ⟨q, hq⟩
    exact d_write I (by rw [e]; exact True.intro) hs he (dk_new hl hd (rel.put k rv) dd')
  · subst ey eH
    cases (show u = Value.ref b from ry)
    obtain ⟨z, hd, xs, rel, dd⟩ := dt_of I.hok e
    have hz : xs.length ≤ sizeLine := by rw [← Paired.length rel]; exact z
    have hl : (putK kvs k v).length ≤ sizeLine := by have := length_putK kvs k v; omega
    refine wpAny_setItem_heap (hsz := hz) (tupleKind_room_in1 hu) (key_of I.hok eb) dd fun h' dd' hs => h _ ?_
    obtain ⟨q, es, ep, hq, h2, h3, h4, _, h5⟩ := dd'
    refine d_write I (by rw [e]; exact True.intro) hs ⟨q, hq⟩ ⟨hl, hd, _, (rel.put k eb rv).keeps fun c ys ec => ?_, q, es, ep, hq, h2, h3, h4, h5⟩
    rw [upd_ne (ne_of ec e (fun z => nomatch z))]
    exact ec
end
noncomputable def sDPut (td ty tv : TE) : TS := fun D σ H => tv σ H fun v H1 => td σ H1 fun x H2 => ty σ H2 fun y H3 => ∃ a H4, x = .ref a ∧ DPut H3 a y v H4 ∧ D.nx σ H4
section
variable {X : Cx} {o i e value : Expr} {pos pos' tpos : Pos} {td ty tv : TE}
theorem ps_dput (hu : X.A.units + 1 < cLine) (ho : PE X o td) (hi : PE X i ty) (hv : PE X value tv) (hs : swapsWith value (some (.Subscript o i pos')) pos.line X.env = pure false) :
    PS X (.Assign [.Subscript o i pos'] value pos) (sDPut td ty tv) := by
  intro pins s σ H D I h
  refine wpAny_Assign_Subscript (thn (hv pins s σ H _ I h) fun r s1 ⟨v, H1, I1, rv, q1⟩ => thn (ho pins s1 σ H1 _ I1 q1) fun u s2 ⟨x, H2, I2, rx, q2⟩ => thn (hi pins s2 σ H2 _ I2 q2) fun iv s3 ⟨y, H3, I3, ry, a, H4, ex, g, q3⟩ => ?_) hs
  subst ex
  obtain rfl : u = Value.ref a := rx
  exact d_setItem hu I3 g ry rv fun s4 I4 => ⟨σ, H4, I4, q3⟩
end
theorem dt_empty {P : Program} {w : World} {H : Hp} (h : Heap) (hb : sysModules < h.objs.size) : ObjOk P w H (h.push { cls := .type "dict", data := .dict #[] }) h.objs.size (.dT []) :=
  ⟨Nat.zero_le _, beq_eq_false_iff_ne.mpr (Ne.symm (Nat.ne_of_lt hb)), [], .nil, _, #[], 0, Heap.get?_push_size _ rfl, ⟨rfl, rfl, rfl⟩, rfl, rfl, List.nodup_nil⟩
noncomputable def tDNewT : TE := fun _ H Q => ∀ p, H p = none → Q (.ref p) (upd H p (.dT []))
section
variable {X : Cx} {pos : Pos}
theorem pe_dnewT : PE X (.Dict [] [] pos) tDNewT := fun pins s σ H Q I h =>
  wpAny_Dict_empty ⟨.ref s.heap.objs.size, _, I.laid (a := s.heap.objs.size) (o := .dT []) (t' := s.toks) (fun _ _ q => Heap.get?_push_of_some _ q) (Nat.le_refl _) (dt_empty s.heap I.big), rfl, h _ (I.hok.fresh (Nat.le_refl _))⟩
end
structure M2 (X : Cx) (o : Expr) (m : Str) (apos : Pos) (e f : Expr) (cpos : Pos) : Prop where
  base : attributeBase o m X.env (eval o X.env) = eval o X.env
  few : ((backTo cpos (starEach [e, f] X.env)).all (fun x => !x.1) && (backToKw cpos (keywordEach [] X.env)).all (fun x => x.1.isSome)
    && decide (([e, f] : List Expr).length + ([] : List Keyword).length + (if ([] : List Keyword).isEmpty then 0 else 1) < 30)) = true
  line : (apos.endLine == cpos.line) = true
  trees : backTo cpos (starEach [e, f] X.env) = [(false, eval e X.env), (false, eval f X.env)]
noncomputable def IsD (H : Hp) (a : Addr) : Prop := (∃ kvs, Rd H a (.dK kvs)) ∨ ∃ kvs, Rd H a (.dT kvs)
theorem isD_at {X : Cx} {pins : List (Addr × Obj)} {σ : St} {H : Hp} {s : Shared} {a : Addr} (I : Inv X pins σ H s) (d : IsD H a) :
    s.TypeIs (.ref a) "dict" ∧ (∀ b, Value.ref a = .ref b → ∃ ob, s.heap.get? b = some ob ∧ ob.dict = none) ∧ (a == sysModules) = false := by
  rcases d with ⟨kvs, e⟩ | ⟨kvs, e⟩
  · obtain ⟨_, hd, vs, _, dd⟩ := dk_rd I.hok e
    refine ⟨dd.typeIs, fun b q => ?_, hd⟩
    cases q
    obtain ⟨ob, _, _, h1, h2, _⟩ := dd
    exact ⟨ob, h1, h2.2.1⟩
  · obtain ⟨_, hd, xs, _, dd⟩ := dt_rd I.hok e
    refine ⟨dd.typeIs, fun b q => ?_, hd⟩
    cases q
    obtain ⟨ob, _, _, h1, h2, _⟩ := dd
    exact ⟨ob, h1, h2.2.1⟩
section
variable {X : Cx} {pins : List (Addr × Obj)} {σ : St} {H : Hp} {s : Shared} {a : Addr} {y d : V} {u r : Value} {o : Option V} {A : Around} {E : Value → Shared → Prop}
theorem d_get2 {Q : Value → Shared → Prop} (hu : A.units + 1 < cLine) (I : Inv X pins σ H s) (g : DGet H a y o) (ry : RelV y u) (rd : RelV d r) (h : ∀ w' s', Inv X pins σ H s' → RelV (o.getD d) w' → Q w' s') :
    wpAny (model X.prog X.w) A (call (.builtin "dict.get") [.ref a, u, r]) Q E s := by
  rcases g with ⟨kvs, k, e, ey, l⟩ | ⟨kvs, k, b, e, ey, eb, l⟩
  · subst ey
    obtain ⟨z, hd, vs, rel, dd⟩ := dk_rd I.hok e
    refine call_meetsIn PySem.F.slot_dict_get dd.typeIs PySem.F.entry_dict_get (PySem.F.args_dict_get_3 _ _ _) (meets_dict_get_default (mixKind X.prog X.w) a (kV_is ry) hd r) ⟨_, dd.mapOf, h _ _ (I.tok _) ?_⟩
    rw [l]
    exact (rel.val k).getD rd
  · subst ey
    cases (show u = Value.ref b from ry)
    obtain ⟨z, hd, xs, rel, dd⟩ := dt_rd I.hok e
    refine call_meetsIn PySem.F.slot_dict_get dd.typeIs PySem.F.entry_dict_get (PySem.F.args_dict_get_3 _ _ _) (meetsH_dict_get_default (tupleKind (mixKind X.prog X.w)) a b hd r) ⟨tupleKind_room_in1 hu, k, xs, key_of I.hok eb, dd, h _ _ (I.tok _) ?_⟩
    rw [l]
    exact (rel.val k).getD rd
end
noncomputable def tDGet2 (td ty tx : TE) : TE := fun σ H Q => td σ H fun x H1 => ∃ a, x = .ref a ∧ IsD H1 a ∧ ty σ H1 fun y H2 => tx σ H2 fun z H3 => ∃ o, DGet H3 a y o ∧ Q (o.getD z) H3
section
variable {X : Cx} {o e f : Expr} {apos cpos : Pos} {td ty tx : TE}
theorem pe_dget2 (hu : X.A.units + 1 < cLine) (ho : PE X o td) (he : PE X e ty) (hf : PE X f tx) (m : M2 X o "get" apos e f cpos) : PE X (.Call (.Attribute o "get" apos) [e, f] [] cpos) (tDGet2 td ty tx) := by
  intro pins s σ H Q I h
  refine wpAny_Call_method m.base m.few m.line PySem.F.plainAttrs_dict PySem.F.slot_dict_get PySem.F.type_dict_get (thn (ho pins s σ H _ I h) fun u s1 ⟨x, H1, I1, rx, a, ex, d, q1⟩ => ?_)
  subst ex
  obtain rfl : u = Value.ref a := rx
  obtain ⟨t1, t2, _⟩ := isD_at I1 d
  refine ⟨t1, t2, ?_⟩
  rw [m.trees]
  refine Calls.callWith_builtin rfl (Calls.evalArgs_plain (Calls.spliced_cons (thn (he pins s1 σ H1 _ I1 q1) fun iv s2 ⟨y, H2, I2, ry, q2⟩ =>
    Calls.spliced_cons (thn (hf pins s2 σ H2 _ I2 q2) fun fv s3 ⟨z, H3, I3, rz, ov, g, q3⟩ => Calls.spliced_nil ?_))))
  exact d_get2 hu I3 g ry rz fun w' s4 I4 rw' => ⟨_, H3, I4, rw', q3⟩
end
end L2
namespace Att
open PySem PySem.W PySem.Calls PyProof.Rows
theorem ints_of_wellAll {P : Params} {h : Heap} : ∀ (ns : List Int) (vs : List Value), WellAll P h vs (ns.map WData.int) → IntsAre vs ns := by
  intro ns
  induction ns with
  | nil =>
    intro vs w
    rw [List.map_nil] at w
    cases w
    exact .nil
  | cons n ns ih =>
    intro vs w
    rw [List.map_cons] at w
    cases w with
    | cons a b =>
      cases a
      exact .cons _ _ (ih _ b)
theorem script_of {l : OpenLaw} {n : Nat} (hn : l.most = some n) {P : Params} {h : Heap} {args : List WData} {vals : List Value}
    (hpre : l.row.toRowW.claim.pre args = true) (hwl : WellAll P h vals args) :
    ∃ a vs ns, vals = [Value.ref a] ∧ args = [WData.list (ns.map WData.int)] ∧ h.get? a = some { cls := .type "list", data := .seq vs.toArray } ∧ IntsAre vs ns ∧ ns.length ≤ n := by
  have hsh : WShape.hasAll [] args [.list .int] = true := (pre_splitW hpre).1
  have hc : l.pre.holds [] { args := args } = true := (pre_splitW hpre).2
  obtain ⟨d, r, rfl, h1, h2⟩ := hasAllW_cons hsh
  obtain rfl := hasAllW_nil h2
  obtain ⟨xs, rfl, h3⟩ := hasW_list h1
  obtain ⟨ns, rfl⟩ := items_int h3
  have hlen : ns.length ≤ n := by
    unfold OpenLaw.pre at hc
    have h4 : (WTm.not (.lt (.lit (.int (n : Int))) (.len (.arg 0)))).holds [] { args := [.list (ns.map .int)] } = true := by
      have h4 := (holds_andW hc).1
      rw [hn] at h4
      exact h4
    have h5 := condW_of h4 (w_not (w_lt w_lit (w_len_list (w_arg rfl))))
    rw [List.length_map] at h5
    refine Nat.le_of_not_lt fun q => ?_
    have q' : (n : Int) < ((ns.length : Nat) : Int) := by omega
    first
      | (rw [decide_eq_true q'] at h5; exact absurd h5 (by decide))
      | (simp at h5; omega)
  cases hwl with
  | cons w1 w2 =>
    cases w2
    cases w1 with
    | list ho hall => exact ⟨_, _, ns, rfl, rfl, ho, ints_of_wellAll ns _ hall, hlen⟩
theorem post_true (l : OpenLaw) (args : List WData) : l.row.toRowW.claim.post args (.bool true) args = true :=
  postW_of (r := l.row.toRowW) (X := (true == true))
    (show WShape.has [] (.bool true) .bool = true by first | rfl | decide | simp [WShape.has, WShape.arms, WShape.armsAll])
    (show (WTm.eq .res (.lit (.bool true))).value [] { args := args, res := some (.bool true), after := args } = some (.bool (true == true)) from w_eq_bool (w_res rfl) w_lit) rfl
theorem attach_call {l : OpenLaw} {n : Nat} {q : Program} {loose : List Str} {XP : (Str → Option Value) → Heap → Prop} {YP : World → Heap → Prop} {d : DefRec}
    (hn : l.most = some n) (hdf : d.params.defaults = [])
    (call : ∀ (w : World) (s₀ s₁ : Shared) (mg mb : Str → Option Value) (fa : Addr) (o : Obj) (pm cd doc : Value) (a : Addr) (vs : List Value) (ns : List Int),
      Ground q loose [] XP w s₀ mg mb s₁.heap → YP w s₁.heap →
      s₁.heap.get? fa = some o → o.data = .func (docDef d.name d.params d.body d.scope pm cd doc) → s₁.heap.CodeRec cd d.name → mg d.name = some (.ref fa) →
      s₁.heap.get? a = some { cls := .type "list", data := .seq vs.toArray } → IntsAre vs ns → ns.length ≤ n → s₁.gens = #[] →
      codeAny (model l.prog w) callerA (.call (.ref fa) ⟨[.ref a], []⟩) (fun r s' => r = .ok (.ret (.bool true)) ∧ OldK s₁.heap s'.heap ∧ s'.os = s₁.os ∧ AllBare s'.gens) s₁) :
    WalkO q loose XP YP l.row.toRowW d [] (fun f vs => PySem.call f vs) := by
  intro w s₀ s₁ mg mb G Y fa o pm cd doc dV kV ho hd hcd hD hmg hg args vals as hpre hlay hrd hwl hlo
  obtain rfl : dV = .none := Dflts.none hD hdf
  obtain rfl : kV = .none := Dflts.noKw hD
  obtain ⟨a, vs, ns, rfl, rfl, hobj, hints, hlen⟩ := script_of hn hpre hwl
  refine enter_call (codeAny_mono (call w s₀ s₁ mg mb fa o pm cd doc a vs ns G Y ho (fd_plain hd) hcd hmg hobj hints hlen hg) fun r s' hq => ?_)
  obtain ⟨rfl, h2, h3, h4⟩ := hq
  exact ⟨.inl ⟨.bool true, .bool true, [], rfl, fun _ => rfl, .bool true, post_true l _, fun _ => ⟨List.Pairwise.nil, fun _ hm => (nomatch hm)⟩⟩, h2, h3, h4⟩
end Att
namespace L2
open PySem PySem.Spec PyProof.Rows
theorem vals_ints : ∀ {vs : List Value} {ns : List Int}, IntsAre vs ns → Vals (ns.map V.int) vs
  | _, _, .nil => .nil
  | _, _, .cons n t h => .cons ⟨t, rfl⟩ (vals_ints h)
noncomputable def Only (H : Hp) : Prop := ∀ b, H b = none ∨ ∃ o xs, H b = some (.frz o (.lst xs))
theorem law_call {P : Program} {w : World} {K : PySem.W.Frag} {mg mb : Str → Option Value} {CX : CXT} {k : Nat} {fa a : Addr} {fd : FuncData} {x : Str} {sp : Sp} {s₁ : Shared} {vs : List Value} {ns : List Int}
    (KX : K.In s₁.heap) (hns : s₁.heap.Ns mainGlobals mg) (hb : s₁.heap.Ns builtinsNs mb) (hbb : ∀ x : Str, x ≠ "__name__" → mb x = bootBuiltins x) (hlim : s₁.heap.NoLimit) (hg : s₁.gens = #[])
    (ha : s₁.heap.get? a = some { cls := .type "list", data := .seq vs.toArray }) (hi : IntsAre vs ns) (hl : ns.length ≤ sizeLine) (hr : Room k callerA)
    (F : ∀ base : Heap, K.In base → base.Ns mainGlobals mg → FnOk P w K mg base CX k fa fd [x] sp) (hbind : ∀ (s : Shared) (u : Value), BindsTo s fd ⟨[u], []⟩ [(x, u)])
    (hsp : ∀ H : Hp, Only H → SqL K H a (ns.map V.int) → sp [.ref a] H (fun v _ => v = .bl true) fun _ _ _ => False)
    (hCX : ∀ H e s', CX [] H s₁ (fun _ _ _ => False) e s' → False) :
    codeAny (model P w) callerA (.call (.ref fa) ⟨[.ref a], []⟩) (fun r s' => r = .ok (.ret (.bool true)) ∧ OldK s₁.heap s'.heap ∧ s'.os = s₁.os ∧ AllBare s'.gens) s₁ := by
  have rv := vals_ints hi
  have lenV := hi.length
  have core : ∀ H : Hp, Only H → SqL K H a (ns.map V.int) → HOk P w H s₁.heap → (∀ b, H b ≠ none → b = a) → (H a ≠ none → K.lookup a = none) →
      codeAny (model P w) callerA (.call (.ref fa) ⟨[.ref a], []⟩) (fun r s' => r = .ok (.ret (.bool true)) ∧ OldK s₁.heap s'.heap ∧ s'.os = s₁.os ∧ AllBare s'.gens) s₁ := by
    intro H hO hS hok hA hK
    have base_of : ∀ {b : Addr} {o : Obj}, s₁.heap.get? b = some o → H b = none → (hidT s₁.heap H).get? b = some o := fun e n => hidT_get e n
    have noA : ∀ {b : Addr} {o : Obj} {es : Array DictEntry} {ep : Nat}, s₁.heap.get? b = some o → o.data = .dict es ep → H b = none := fun {b o es ep} e d => by
      cases q : H b with
      | none => rfl
      | some u =>
        have e' : b = a := hA b (by rw [q]; simp)
        subst e'
        rw [ha] at e; cases e
        have d' : Data.seq vs.toArray _ = Data.dict es ep := d
        cases d'
    have nsK : ∀ {b : Addr} {m : Str → Option Value}, s₁.heap.Ns b m → (hidT s₁.heap H).Ns b m := fun {b m} ⟨o, es, ep, e, d, r⟩ => ⟨o, es, ep, base_of e (noA e d), d, r⟩
    have hKb : K.In (hidT s₁.heap H) := fun b o e => base_of (KX b o e) (by
      cases q : H b with
      | none => rfl
      | some u =>
        have e' : b = a := hA b (by rw [q]; simp)
        subst e'
        rw [hK (by rw [q]; simp)] at e; cases e)
    have hM : Mod K mg (hidT s₁.heap H) := ⟨hKb, nsK hns, ⟨mb, nsK hb, hbb⟩, let ⟨mc, h1, h2⟩ := hlim; ⟨mc, nsK h1, h2⟩⟩
    have e0 : Env0 P w K mg (hidT s₁.heap H) callerA [] s₁ H := ⟨rfl, hM, fun b o e => of_hidT e, Nat.le_of_eq (hidT_size _ _), trivial, fun b hb => absurd (show b ∈ ([] : List Addr) from hb) (by simp), hok, .of_eq hg⟩
    refine codeAny_mono ((F _ hKb (nsK hns)).run callerA [] s₁ H ⟨[.ref a], []⟩ [.ref a] [.ref a] _ _ hr e0 (hbind s₁ (.ref a)) (.cons rfl .nil) (hsp H hO hS)) fun r s' h => ?_
    cases r with
    | error e => exact (hCX H e s' h).elim
    | ok fl =>
      cases fl with
      | next => exact False.elim h
      | brk => exact False.elim h
      | cont => exact False.elim h
      | ret u =>
        obtain ⟨v, H', os, bare, un, hok', r', q⟩ := h
        have q' : v = .bl true := q
        subst q'
        obtain rfl : u = Value.bool true := r'
        refine ⟨rfl, OldK.of_keep fun b o e => ?_, os, bare⟩
        cases q : H b with
        | none => exact un.keep b o e q (by intro z; exact absurd (show b ∈ ([] : List Addr) from z) (by simp)) (by simp)
        | some u =>
          rcases hO b with z | ⟨ob, xs, z⟩
          · rw [q] at z; cases z
          · have z2 := un.frzs b ob _ z
            obtain ⟨e1, _⟩ := hok b _ z
            obtain ⟨e2, _⟩ := hok' b _ z2
            rw [e] at e1; cases e1
            exact e2
  cases hk : K.lookup a with
  | some o =>
    have e := KX a o hk
    rw [ha] at e
    cases e
    refine core (fun _ => none) (fun _ => .inl rfl) (.inr ⟨_, vs.toArray, _, hk, rfl, rfl, rfl, by rw [List.size_toArray, lenV]; exact hl, by simpa using rv⟩) (fun b u z => by have z' : (none : Option HO) = some u := z; cases z') (fun b z => absurd rfl z) fun z => absurd rfl z
  | none =>
    refine core (fun b => if b = a then some (.frz { cls := .type "list", data := .seq vs.toArray } (.lst (ns.map V.int))) else none) (fun b => ?_) (.inl (.inr ⟨{ cls := .type "list", data := .seq vs.toArray }, if_pos rfl⟩)) (fun b u z => ?_) (fun b z => ?_) fun _ => hk
    · by_cases hb : b = a
      · exact .inr ⟨_, _, if_pos hb⟩
      · exact .inl (if_neg hb)
    · by_cases hb : b = a
      · have z' := (if_pos hb).symm.trans z
        cases z'
        subst hb
        exact ⟨ha, by rw [List.length_map]; exact hl, vs, _, rv, ha⟩
      · have z' := (if_neg hb).symm.trans z
        cases z'
    · by_cases hb : b = a
      · exact hb
      · exact absurd (if_neg hb) z
end L2
namespace L2
open PySem PySem.Spec PyProof.Rows
noncomputable abbrev KOf {K : PySem.W.Frag} {h : Heap} (_ : K.In h) : PySem.W.Frag := K
theorem walk_of {l : PySem.W.OpenLaw} {n k : Nat} {q : Program} {loose : List Str} {XP : (Str → Option Value) → Heap → Prop} {YP : World → Heap → Prop} {d : DefRec} {K : Params → PySem.W.Frag} {CX : World → CXT} {sp : World → Sp} {x : Str}
    (hn : l.most = some n) (hn2 : n ≤ sizeLine) (hdf : d.params.defaults = []) (hr : Room k callerA)
    (hY : ∀ (w : World) (h : Heap), YP w h → (K w.params).In h)
    (F : ∀ (w : World) (mg : Str → Option Value) (fa : Addr) (h : Heap), (K w.params).In h → h.Ns mainGlobals mg → mg d.name = some (.ref fa) →
      ∃ fd : FuncData, (∀ (s : Shared) (u : Value), BindsTo s fd ⟨[u], []⟩ [(x, u)]) ∧
        ∀ base : Heap, (K w.params).In base → base.Ns mainGlobals mg → FnOk l.prog w (K w.params) mg base (CX w) k fa fd [x] (sp w))
    (hsp : ∀ (w : World) (H : Hp) (a : Addr) (ns : List Int), ns.length ≤ n → Only H → SqL (K w.params) H a (ns.map V.int) → sp w [.ref a] H (fun v _ => v = .bl true) fun _ _ _ => False)
    (hCX : ∀ (w : World) (H : Hp) (s : Shared) (e : Value) (s' : Shared), CX w [] H s (fun _ _ _ => False) e s' → False) :
    PySem.W.WalkO q loose XP YP l.row.toRowW d [] (fun f vs => PySem.call f vs) := by
  refine Att.attach_call hn hdf fun w s₀ s₁ mg mb fa o pm cd doc a vs ns G Y ho hd hcd hmg hobj hints hlen hg => ?_
  have KX := hY w _ Y
  obtain ⟨fd, hb, hF⟩ := F w mg fa _ KX G.T.g hmg
  exact law_call KX G.T.g G.T.b G.T.builtins G.T.nolimit hg hobj hints (Nat.le_trans hlen hn2) hr hF hb (fun H hO hS => hsp w H a ns hlen hO hS) fun H e s' => hCX w H s₁ e s'
end L2
/- THE LAST THEOREM (shape; LID, My.* are yours):
   My.Adr: a structure of the addresses that your layer names (classes, functions); My.Txt K t: a structure (Prop) of the equations over K;
   My.txt_mk : {K} {implicit addresses ..} (e1 : nsIn K mainGlobals "law" = some (some (.ref f))) (e2 : K.lookup f = some ⟨oc, od, .func (fnOf "law" "law" params body scope dV kV doc pm an cdv ct), sl⟩) (e3 : codeIn K cdv "law" = true) .. : ∃ t, My.Txt K t
(the tactic k_is has no namespace: write k_is) -/
namespace L2
open PySem PySem.Spec PyProof.Rows
noncomputable def defArgs (s : Stmt) : Arguments := match s with
  | .FunctionDef _ a _ _ _ _ _ _ _ _ => a
  | _ => { posonlyargs := [], args := [], vararg := none, kwonlyargs := [], kw_defaults := [], kwarg := none, defaults := [] }
noncomputable def defBody (s : Stmt) : List Stmt := match s with
  | .FunctionDef _ _ b _ _ _ _ _ _ _ => b
  | _ => []
noncomputable def defScope (s : Stmt) : Scope := match s with
  | .FunctionDef _ _ _ _ _ _ sc _ _ _ => sc
  | _ => { kind := .function, names := [], isGenerator := false, isCoroutine := false }
noncomputable abbrev CX0 : CXT := fun _ _ _ _ _ _ => False
noncomputable abbrev E0 : XK := fun _ _ _ => False
theorem pass0 {X : Cx} : Passes CX0 X E0 := fun _ _ _ _ _ _ _ h => h.elim
structure Fun (K : PySem.W.Frag) (x qual : Str) (st : Stmt) (f : Addr) (fd : FuncData) : Prop where
  ex : ∃ (oc : Value) (od : Option Addr) (kV doc pm : Value) (an : Option Addr) (cdv ct : Value) (osl : Array (Option Value)),
    fd = PySem.W.fnOf x qual (defArgs st) (defBody st) (defScope st) .none kV doc pm an cdv ct ∧ K.lookup f = some ⟨oc, od, .func fd, osl⟩ ∧ PySem.W.codeIn K cdv qual = true
  kp : PySem.W.keepIn K (.ref f) = true
section
variable {P : Program} {w : World} {K : PySem.W.Frag} {mg : Str → Option Value} {base : Heap}
theorem Fun.ok {x qual : Str} {st : Stmt} {f : Addr} {fd : FuncData} {N ps : List Str} {k : Nat} {sp : Sp} (F : Fun K x qual st f fd) (S : FnScope N ps (defScope st)) (len : ∀ vs H Q E, sp vs H Q E → vs.length = ps.length)
    (hbody : ∀ (cdv : Value) (A : Around) (outer : List Env) (s : Shared) (H : Hp) (vs : List V) (Q : VK) (E : XK), Room k (A.deeper (envOfC qual (defScope st) s.heap.objs.size f cdv)) → sp vs H Q E →
      ∃ t, PSs (cxOf CX0 P w K mg base N qual (defScope st) f cdv A outer s H E).nox (defBody st) t ∧ t { nx := fun _ H' => Q .non H', rt := Q } (start N vs) H) : FnOk P w K mg base CX0 (k + 1) f fd ps sp := by
  obtain ⟨oc, od, kV, doc, pm, an, cdv, ct, osl, rfl, lk, hcd⟩ := F.ex
  refine fn_of lk hcd S len fun A outer s H vs Q E hr hsp => ?_
  obtain ⟨t, h, q⟩ := hbody cdv A outer s H vs Q E hr hsp
  exact ⟨t, h.nox, q⟩
theorem Fun.binds {x qual : Str} {st : Stmt} {f : Addr} {fd : FuncData} {ps : List Str} (F : Fun K x qual st f fd)
    (h : ∀ (kV doc pm : Value) (an : Option Addr) (cdv ct : Value) (us : List Value), us.length = ps.length → bindArgs (PySem.W.fnOf x qual (defArgs st) (defBody st) (defScope st) .none kV doc pm an cdv ct) ⟨us, []⟩ = pure (ps.zip us)) : Binds K fd ps [] := by
  obtain ⟨oc, od, kV, doc, pm, an, cdv, ct, osl, rfl, lk, hcd⟩ := F.ex
  exact .all (h kV doc pm an cdv ct)
theorem fun_mk {x qual : Str} {st : Stmt} {f : Addr} {oc : Value} {od an : Option Addr} {osl : Array (Option Value)} {kV doc pm cdv ct : Value} (l : K.lookup f = some ⟨oc, od, .func (PySem.W.fnOf x qual (defArgs st) (defBody st) (defScope st) .none kV doc pm an cdv ct), osl⟩)
    (c : PySem.W.codeIn K cdv qual = true) (k : PySem.W.keepIn K (.ref f) = true) : Fun K x qual st f (PySem.W.fnOf x qual (defArgs st) (defBody st) (defScope st) .none kV doc pm an cdv ct) := ⟨⟨oc, od, kV, doc, pm, an, cdv, ct, osl, rfl, l, c⟩, k⟩
end
theorem hu_of {A : Around} {k : Nat} (hr : Room k A) : A.units + 1 < cLine := Nat.lt_of_le_of_lt (Nat.add_le_add_left (by decide : 1 ≤ 64) _) hr.units
section
variable {X : Cx}
theorem pv (i : Nat) {x : Str} {pos : Pos} (hN : X.N[i]? = some x := by rfl) (hv : Vis X.env.scope x := by first | exact Or.inl rfl | exact Or.inr (Or.inl rfl) | exact Or.inr (Or.inr rfl)) (hd : (x == ("__debug__" : Str)) = false := by decide)
    (hcd : (x == ("__classdict__" : Str)) = false := by decide) : PE X (.Name x pos) (tVar i) := pe_var hN hv hd hcd
end
theorem iteF {A B : Prop} (h : B) : if false = true then A else B := by
  rw [if_neg Bool.false_ne_true]
  exact h
theorem iteT {A B : Prop} (h : A) : if true = true then A else B := by
  rw [if_pos rfl]
  exact h
theorem ite2 {c A B : Prop} [Decidable c] (h1 : c → A) (h2 : ¬ c → B) : if c then A else B := by
  by_cases h : c
  · rw [if_pos h]
    exact h1 h
  · rw [if_neg h]
    exact h2 h
noncomputable def Same (H H' : Hp) : Prop := ∀ b o, H b = some o → H' b = some o
theorem Same.refl (H : Hp) : Same H H := fun _ _ h => h
theorem Same.trans {H H1 H2 : Hp} (a : Same H H1) (b : Same H1 H2) : Same H H2 := fun c o h => b c o (a c o h)
theorem Same.seq {K : PySem.W.Frag} {H H' : Hp} {a : Addr} {xs : List V} (e : Same H H') (h : SqL K H a xs) : SqL K H' a xs := by
  rcases h with (h | ⟨o, h⟩) | h
  · exact .inl (.inl (e _ _ h))
  · exact .inl (.inr ⟨o, e _ _ h⟩)
  · exact .inr h
end L2
namespace L2
open PySem PySem.Spec PyProof.Rows
end L2
set_option Elab.async false
set_option linter.all false
set_option maxRecDepth 100000
set_option maxHeartbeats 4000000
namespace L2
open PySem PySem.Spec PyProof.Rows
noncomputable abbrev Bt (n : Nat) (i : Int) : Prop := Builtin.Int.intBits i ≤ n
theorem Bt.mono {m n : Nat} {i : Int} (h : Bt m i) (l : m ≤ n) : Bt n i := Nat.le_trans h l
theorem Bt.log {n : Nat} {i : Int} (h : Bt n i) (l : n ≤ 8999) : i.natAbs.log2 < 9000 := by
  have h1 := intBits_le_iff.mp h
  by_cases z : i.natAbs = 0
  · rw [z]; decide
  · exact Nat.lt_of_lt_of_le ((Nat.log2_lt z).mpr h1) (by omega)
theorem Bt.neg {n : Nat} {i : Int} (h : Bt n i) : Bt n (-i) := intBits_neg_le h
theorem Bt.mul {m n : Nat} {i j : Int} (h : Bt m i) (h' : Bt n j) : Bt (m + n) (i * j) := intBits_mul_le h h'
theorem Bt.of_le {n : Nat} {i j : Int} (h : Bt n j) (l : i.natAbs ≤ j.natAbs) : Bt n i := intBits_le_of_natAbs l h
theorem Bt.of_lt {n : Nat} {i : Int} (l : i.natAbs < 2 ^ n) : Bt n i := intBits_le_iff.mpr l
section
variable {X : Cx}
noncomputable def CMulB (i j : Int) : Prop := Bt 20000 i ∧ Bt 20000 j
theorem op_mulB : OpR X (binaryOp .Mult) (rI CMulB fun i j => .int (i * j)) := opI fun _ _ _ _ _ _ _ hc q => mul_int q (IntMulOk.of_le hc.1 hc.2 (by decide))
noncomputable def CDivB (i j : Int) : Prop := 0 < j ∧ Bt 8000 j
theorem op_fdivB : OpR X (binaryOp .FloorDiv) (rI CDivB fun i j => .int (i / j)) := opI fun i j _ _ _ _ _ hc q => by
  refine floordiv_int (by have := hc.1; omega) ?_ (.inl (PyProof.noPylong_of_log2 (hc.2.log (by decide))))
  rw [Int.fdiv_eq_ediv_of_nonneg i (Int.le_of_lt hc.1)]
  exact q
theorem getD_of {α : Type} {xs : List α} {d : α} {j : Nat} (h : j < xs.length) : xs.getD j d = xs[j] := by
  rw [List.getD_eq_getElem?_getD, List.getElem?_eq_getElem h]; rfl
end
end L2
set_option Elab.async false
set_option linter.all false
set_option maxRecDepth 100000
set_option maxHeartbeats 4000000
namespace L2
open PySem PySem.Spec PyProof.Rows
structure Cal (P : Program) (w : World) (K : PySem.W.Frag) (mg : Str → Option Value) (base : Heap) (x : Str) (ps : List Str) (k : Nat) (sp : Sp) : Prop where
  ex : ∃ f fd, FnOk P w K mg base CX0 k f fd ps sp ∧ mg x = some (.ref f) ∧ PySem.W.keepIn K (.ref f) = true ∧ Binds K fd ps []
structure FunAt (K : PySem.W.Frag) (mg : Str → Option Value) (x : Str) (ps : List Str) (st : Stmt) : Prop where
  ex : ∃ f fd, Fun K x x st f fd ∧ mg x = some (.ref f) ∧ Binds K fd ps []
theorem Cal.mono {P : Program} {w : World} {K : PySem.W.Frag} {mg : Str → Option Value} {base : Heap} {x : Str} {ps : List Str} {j k : Nat} {sp : Sp} (c : Cal P w K mg base x ps j sp) (h : j ≤ k) : Cal P w K mg base x ps k sp :=
  let ⟨f, fd, F, r⟩ := c.ex
  ⟨f, fd, F.mono h, r⟩
theorem FunAt.cal {P : Program} {w : World} {K : PySem.W.Frag} {mg : Str → Option Value} {base : Heap} {x : Str} {ps N : List Str} {st : Stmt} {k : Nat} {sp : Sp} (F : FunAt K mg x ps st) (S : FnScope N ps (defScope st)) (len : ∀ vs H Q E, sp vs H Q E → vs.length = ps.length)
    (hbody : ∀ (f : Addr) (cdv : Value) (A : Around) (outer : List Env) (s : Shared) (H : Hp) (vs : List V) (Q : VK) (E : XK), Room k (A.deeper (envOfC x (defScope st) s.heap.objs.size f cdv)) → sp vs H Q E →
      ∃ t, PSs (cxOf CX0 P w K mg base N x (defScope st) f cdv A outer s H E).nox (defBody st) t ∧ t { nx := fun _ H' => Q .non H', rt := Q } (start N vs) H) : Cal P w K mg base x ps (k + 1) sp := by
  obtain ⟨f, fd, F1, m, b⟩ := F.ex
  exact ⟨f, fd, F1.ok S len (hbody f), m, F1.kp, b⟩
section
variable {X : Cx} {x : Str} {ps : List Str} {k : Nat} {sp : Sp} {e : Expr} {es : List Expr} {t : TA} {p pos : Pos}
theorem cc (c : Cal X.prog X.w X.K X.mg X.base x ps k sp) (hr : Room k X.A) (ha : PA X (e :: es) t) (hg : Gl X x := by rfl) (hd : (x == ("__debug__" : Str)) = false := by decide)
    (hs : starEach (e :: es) X.env = (false, eval e X.env) :: starEach es X.env := by rfl) (hp : (backTo pos (starEach es X.env)).any (·.1) = false := by rfl) : PE X (.Call (.Name x p) (e :: es) [] pos) (tCall sp [] E0 t) := by
  obtain ⟨f, fd, F, m, kp, b⟩ := c.ex
  exact pe_call F hr hg m kp b .nil pass0 ha hd hs hp
end
theorem funAt_mk {K : PySem.W.Frag} {h : Heap} {mg : Str → Option Value} {x : Str} {ps : List Str} {st : Stmt} {f : Addr} {oc : Value} {od an : Option Addr} {osl : Array (Option Value)} {kV doc pm cdv ct : Value} (X : K.In h) (G : h.Ns mainGlobals mg)
    (hb : ∀ (kV doc pm : Value) (an : Option Addr) (cdv ct : Value) (us : List Value), us.length = ps.length → bindArgs (PySem.W.fnOf x x (defArgs st) (defBody st) (defScope st) .none kV doc pm an cdv ct) ⟨us, []⟩ = pure (ps.zip us))
    (a : PySem.W.nsIn K mainGlobals x = some (some (.ref f))) (l : K.lookup f = some ⟨oc, od, .func (PySem.W.fnOf x x (defArgs st) (defBody st) (defScope st) .none kV doc pm an cdv ct), osl⟩)
    (c : PySem.W.codeIn K cdv x = true) (k : PySem.W.keepIn K (.ref f) = true) : FunAt K mg x ps st :=
  let F := fun_mk (st := st) l c k
  ⟨f, _, F, PySem.W.mg_of X G a, F.binds hb⟩
theorem bt_abs : bootBuiltins "abs" = some (.builtin "abs") := by decide +kernel
theorem bt_len : bootBuiltins "len" = some (.builtin "len") := by decide +kernel
theorem bt_tuple : bootBuiltins "tuple" = some (.type "tuple") := by decide +kernel
theorem bt_list : bootBuiltins "list" = some (.type "list") := by decide +kernel
open MA
noncomputable def ShAt (H : Hp) (v : V) (q : Rat) : Prop := ∃ p, v = .ref p ∧ H p = some (.tup [.int q.num, .int (q.den : Int)])
noncomputable def SB (n : Nat) (q : Rat) : Prop := Bt n q.num ∧ Bt n (q.den : Int)
theorem same_new {H : Hp} {p : Addr} (h : H p = none) (o : HO) : Same H (upd H p o) := fun b u q => by rw [upd_ne (ne_of_none q h)]; exact q
theorem ShAt.same {H H' : Hp} {v : V} {q : Rat} (h : ShAt H v q) (s : Same H H') : ShAt H' v q := let ⟨p, e, h⟩ := h; ⟨p, e, s _ _ h⟩
theorem SB.mono {m n : Nat} {q : Rat} (h : SB m q) (l : m ≤ n) : SB n q := ⟨h.1.mono l, h.2.mono l⟩
theorem SB.neg {n : Nat} {q : Rat} (h : SB n q) : SB n (-q) := ⟨h.1.neg, h.2⟩
theorem Bt.ediv {n : Nat} {i c : Int} (h : Bt n i) (hc : 0 < c) : Bt n (i / c) := by
  rw [← Int.fdiv_eq_ediv_of_nonneg i (Int.le_of_lt hc)]; exact intBits_fdiv_le h
theorem Bt.gl {n : Nat} {a b : Int} (h : Bt n a) (ha : a ≠ 0) : Bt n (gI a b) :=
  h.of_le (Nat.le_of_dvd (by omega) (Int.natAbs_dvd_natAbs.mpr (gI_dvd_left a b)))
theorem Bt.gr {n : Nat} {a b : Int} (h : Bt n b) (hb : b ≠ 0) : Bt n (gI a b) := by rw [gI_comm]; exact h.gl hb
theorem Bt.addI {m : Nat} {i j : Int} (h : Bt m i) (h' : Bt m j) : Bt (m + 1) (i + j) := by
  have := intBits_add_le h h'; rw [Nat.max_self] at this; exact this
theorem SB.divInt {n : Nat} {t b : Int} (ht : Bt n t) (hb : Bt n b) (h0 : 0 < b) : SB n (Rat.divInt t b) := by
  have e := share_pos (t := t) h0
  have g := gI_pos_right (a := t) (b := b) (by omega)
  exact ⟨by rw [← e.1]; exact ht.ediv g, by rw [← e.2]; exact hb.ediv g⟩
theorem den_ne (q : Rat) : (q.den : Int) ≠ 0 := by have := den_pos q; omega
theorem den_mul_pos (q r : Rat) : 0 < (q.den : Int) * (r.den : Int) := Int.mul_pos (den_pos q) (den_pos r)
theorem SB.mul {m n : Nat} {q r : Rat} (h : SB m q) (h' : SB n r) : SB (m + n) (q * r) := by
  rw [← times_ok q r]
  exact .divInt (h.1.mul h'.1) (h.2.mul h'.2) (den_mul_pos q r)
theorem SB.add {m n : Nat} {q r : Rat} (h : SB m q) (h' : SB n r) : SB (m + n + 1) (q + r) := by
  have e : q + r = Rat.divInt (q.num * r.den + r.num * q.den) (q.den * r.den) := by
    rw [Rat.add_def', ← Int.natCast_mul, Rat.divInt_ofNat]
  rw [e]
  refine .divInt ((h.1.mul h'.2).addI ?_) ((h.2.mul h'.2).mono (by omega)) (den_mul_pos q r)
  have := h'.1.mul h.2
  rw [Nat.add_comm n m] at this
  exact this
theorem SB.sub {m n : Nat} {q r : Rat} (h : SB m q) (h' : SB n r) : SB (m + n + 1) (q - r) := by
  rw [Rat.sub_eq_add_neg]; exact h.add h'.neg
end L2
set_option Elab.async false
set_option linter.all false
set_option maxRecDepth 100000
set_option maxHeartbeats 4000000
namespace L2
open PySem PySem.Spec PyProof.Rows
theorem closure_go {env : Env} : ∀ (ns : List (Str × NameKind)) (cs : List (Str × Addr)), (∀ x ∈ ns, x.2 = .free → ∃ c, env.cells.lookup x.1 = some c) → (∀ x c, cs.lookup x = some c → env.cells.lookup x = some c) →
    ∃ cl, (forIn ns cs (fun (p : Str × NameKind) (r : List (Str × Addr)) => if (p.2 == NameKind.free) = true then (do let c ← cellOf env p.1; pure (ForInStep.yield ((p.1, c) :: r))) else pure (ForInStep.yield r)) : Sem (List (Str × Addr))) = pure cl ∧
      (∀ x c, cl.lookup x = some c → env.cells.lookup x = some c) ∧ (∀ x, (x, NameKind.free) ∈ ns → ∃ c, cl.lookup x = some c) ∧ (∀ x c, cs.lookup x = some c → ∃ c', cl.lookup x = some c')
  | [], cs, _, hcs => ⟨cs, rfl, hcs, fun _ h => (by simp at h), fun x c h => ⟨c, h⟩⟩
  | (n, k) :: r, cs, hall, hcs => by
    by_cases hk : k = .free
    · subst hk
      obtain ⟨c, hc⟩ := hall (n, .free) (by simp) rfl
      have hce : cellOf env n = pure c := by unfold cellOf; rw [hc]
      have hcs' : ∀ x d, ((n, c) :: cs).lookup x = some d → env.cells.lookup x = some d := fun x d h => by
        rw [List.lookup_cons] at h
        cases e : x == n with
        | true => rw [e] at h; cases h; rw [eq_of_beq e]; exact hc
        | false => rw [e] at h; exact hcs x d h
      obtain ⟨cl, e, h1, h2, h3⟩ := closure_go r ((n, c) :: cs) (fun x hx => hall x (by simp [hx])) hcs'
      refine ⟨cl, ?_, h1, fun x hx => ?_, fun x d hd => ?_⟩
      · rw [List.forIn_cons, ← e]
        show (cellOf env n >>= _) >>= _ = _
        rw [hce]
        rfl
      · rcases List.mem_cons.mp hx with z | z
        · cases z
          exact h3 n c (by simp)
        · exact h2 x z
      · cases q : x == n with
        | true => exact h3 x c (by rw [List.lookup_cons, q])
        | false => exact h3 x d (by rw [List.lookup_cons, q]; exact hd)
    · obtain ⟨cl, e, h1, h2, h3⟩ := closure_go r cs (fun x hx => hall x (by simp [hx])) hcs
      refine ⟨cl, ?_, h1, fun x hx => ?_, h3⟩
      · rw [List.forIn_cons, ← e]
        have : (k == NameKind.free) = false := by simpa using hk
        simp only [this, Bool.false_eq_true, if_false]
        rfl
      · rcases List.mem_cons.mp hx with z | z
        · cases z
          exact absurd rfl hk
        · exact h2 x z
theorem closure_of {env : Env} {scope : Scope} (hall : ∀ x ∈ scope.names, x.2 = .free → ∃ c, env.cells.lookup x.1 = some c) :
    ∃ cl, closureFor scope env = pure cl ∧ (∀ x c, cl.lookup x = some c → env.cells.lookup x = some c) ∧ (∀ x, (x, NameKind.free) ∈ scope.names → ∃ c, cl.lookup x = some c) := by
  obtain ⟨cl, e, h1, h2, _⟩ := closure_go (env := env) scope.names [] hall (fun x c h => by simp at h)
  refine ⟨cl, ?_, h1, h2⟩
  simp only [closureFor]
  rw [e]
  rfl
noncomputable def cxComp (X : Cx) (scope : Scope) (N : List Str) (cl : List (Str × Addr)) (C : Addr) (s : Shared) (H : Hp) (ex : List Addr) : Cx :=
  { X with N := N, s₀ := s, H₀ := H, env := compEnvC scope cl C X.env, outer := X.stack, stack := X.stack, ex := ex, fn := fun _ => false, pn := [] }
noncomputable def PTs (X : Cx) (ifs : List Expr) (t : TT) : Prop :=
  ∀ (pins : List (Addr × Obj)) (s : Shared) (σ : St) (H : Hp) (Q : Bool → Hp → Prop), Inv X pins σ H s → t σ H Q →
    wpAny (model X.prog X.w) X.A (forIn ifs true fun c r => if r = true then do let ok ← isTrue c X.env (eval c X.env); pure (ForInStep.yield ok) else pure (ForInStep.yield r)) (TP X pins σ Q) X.xe s
noncomputable def tTT : TT := fun _ H Q => Q true H
theorem pts_nil {X : Cx} : PTs X [] tTT := fun pins s σ H Q I h => wpAny_tests_nil ⟨H, I, h⟩
theorem pts_one {X : Cx} {c : Expr} {t : TT} (h : PT X c t) : PTs X [c] t := fun pins s σ H Q I hw => wpAny_tests_one (h pins s σ H Q I hw)
noncomputable def tComp (σ0 : St → St) (wi : TI) (g : TG) (tc : TT) (te : TE) : TE := fun σ H Q => wi σ H fun J H1 => ∀ p, H1 p = none → ∃ W : Nat → Nat → List V → St → Hp → Prop, (∃ m, W 0 m [] (σ0 σ) (upd H1 p (.lst []))) ∧ ∀ i m ys σ' H', W i m ys σ' H' →
  (J.stop i H' ∧ Q (.ref p) H') ∨ (J.go i H' ∧ ∀ x H2, J.yld i H' x H2 → g x σ' H2 fun σ2 H3 => tc σ2 H3 fun b H4 => if b = true then te σ2 H4 fun v H5 => ys.length < sizeLine ∧ H5 p = some (.lst ys) ∧ (∃ m', m' < m ∧ W (i + 1) m' (ys ++ [v]) σ2 (upd H5 p (.lst (ys ++ [v]))))
    else ∃ m', m' < m ∧ W (i + 1) m' ys σ2 H4)
noncomputable def Sees (X : Cx) (scope : Scope) (N : List Str) (σ0 : St → St) : Prop :=
  ∀ σ : St, (σ0 σ).length = N.length ∧ ∀ (i : Nat) (x : Str) (v : V), N[i]? = some x → (σ0 σ)[i]? = some (some v) → scope.names.lookup x = some .free ∧ ∃ j : Nat, X.N[j]? = some x ∧ σ[j]? = some (some v)
theorem lookup_relabel_mem {env : Env} {names : List (Str × NameKind)} {x : Str} : ∀ {k}, (names.map fun (n, k) => if (k == NameKind.free && env.scope.kind == .function && env.kindOf n == some .cell) = true then (n, NameKind.cell) else (n, k)).lookup x = some k → (x, k) ∈ names ∨ (k = .cell ∧ (x, NameKind.free) ∈ names) := by
  induction names with
  | nil => intro k h; simp at h
  | cons a r ih =>
    intro k h
    obtain ⟨n, k0⟩ := a
    rw [List.map_cons] at h
    dsimp only at h
    by_cases hc : (k0 == NameKind.free && env.scope.kind == .function && env.kindOf n == some .cell) = true
    · rw [if_pos hc] at h
      have hk0 : k0 = .free := by
        simp only [Bool.and_eq_true, beq_iff_eq] at hc
        exact hc.1.1
      rw [List.lookup_cons] at h
      cases e : x == n with
      | true =>
        rw [e] at h
        cases h
        exact .inr ⟨rfl, by rw [eq_of_beq e, hk0]; simp⟩
      | false =>
        rw [e] at h
        rcases ih h with z | ⟨z1, z2⟩
        · exact .inl (List.mem_cons_of_mem _ z)
        · exact .inr ⟨z1, List.mem_cons_of_mem _ z2⟩
    · rw [if_neg hc] at h
      rw [List.lookup_cons] at h
      cases e : x == n with
      | true =>
        rw [e] at h
        cases h
        exact .inl (by rw [eq_of_beq e]; simp)
      | false =>
        rw [e] at h
        rcases ih h with z | ⟨z1, z2⟩
        · exact .inl (List.mem_cons_of_mem _ z)
        · exact .inr ⟨z1, List.mem_cons_of_mem _ z2⟩
theorem lookup_relabel_free {env : Env} {x : Str} : ∀ {names : List (Str × NameKind)}, names.lookup x = some .free →
    (names.map fun (n, k) => if (k == NameKind.free && env.scope.kind == .function && env.kindOf n == some .cell) = true then (n, NameKind.cell) else (n, k)).lookup x = some .cell ∨ (names.map fun (n, k) => if (k == NameKind.free && env.scope.kind == .function && env.kindOf n == some .cell) = true then (n, NameKind.cell) else (n, k)).lookup x = some .free
  | [], h => by simp at h
  | (n, k0) :: r, h => by
    rw [List.lookup_cons] at h
    rw [List.map_cons]
    dsimp only
    cases e : x == n with
    | true =>
      rw [e] at h
      cases h
      by_cases hc : (NameKind.free == NameKind.free && env.scope.kind == .function && env.kindOf n == some .cell) = true
      · rw [if_pos hc]; left; rw [List.lookup_cons, e]
      · rw [if_neg hc]; right; rw [List.lookup_cons, e]
    | false =>
      rw [e] at h
      have ih := lookup_relabel_free (env := env) h
      by_cases hc : (k0 == NameKind.free && env.scope.kind == .function && env.kindOf n == some .cell) = true
      · rw [if_pos hc, List.lookup_cons, e]; exact ih
      · rw [if_neg hc, List.lookup_cons, e]; exact ih
theorem mem_of_lookupF {x : Str} {k : NameKind} : ∀ {names : List (Str × NameKind)}, names.lookup x = some k → (x, k) ∈ names := fun h => PySem.mem_of_lookup h
theorem pe_comp {X : Cx} {elt tg iter : Expr} {ifs : List Expr} {scope : Scope} {pos : Pos} {wi : TI} {g : TG} {tc : TT} {te : TE} {N : List Str} {σ0 : St → St}
    (hc : X.calm = true) (hxe : ∀ e s, X.xe e s → False) (hcell : ∀ y ∈ scope.names, y.2 ≠ .cell) (hkind : scope.kind = .function) (hnames : ∀ y ∈ scope.names, y.2 = .local → scope.names.lookup y.1 = some .local)
    (hfr : ∀ y ∈ scope.names, y.2 = .free → X.env.kindOf y.1 = some .cell ∨ X.env.kindOf y.1 = some .free) (hσ : Sees X scope N σ0)
    (hi : PI X tg iter wi)
    (hg : ∀ cl C s H ex, PG (cxComp X scope N cl C s H ex) tg g) (ht : ∀ cl C s H ex, PTs (cxComp X scope N cl C s H ex) ifs tc) (he : ∀ cl C s H ex, PE (cxComp X scope N cl C s H ex) elt te)
    (hs : ∀ x, foldedSetIterable iter X.env x = pure x := by intro _; rfl) : PE X (.ListComp elt [⟨tg, iter, ifs, 0⟩] scope pos) (tComp σ0 wi g tc te) := by
  intro pins s σ H Q I h
  obtain ⟨cl, hclos, hcl1, hcl2⟩ := closure_of (env := X.env) (scope := scope) fun y hy hf => I.ok.has y.1 (hfr y hy hf)
  rw [eval_ListComp]
  refine wpAny_comprehension_free (use := none) rfl hs hclos hkind hnames (thn (hi pins s σ H _ I h) fun v s1 h1 => thn h1 fun itv s2 h2 => ?_)
  obtain ⟨it, fp, tn, J, H2, e, I2, T, st2, f2, h3⟩ := h2
  subst e
  have hpn : H2 s2.heap.objs.size = none := I2.hok.fresh (Nat.le_refl _)
  obtain ⟨W, ⟨m0, w0⟩, turn⟩ := h3 _ hpn
  refine wpAny_newObj_type ?_
  generalize hp : s2.heap.objs.size = p at *
  have I3 : Inv X pins σ (upd H2 p (.lst [])) { s2 with heap := s2.heap.push { cls := .type "list", dict := none, data := .seq ([] : List Value).toArray } } := by
    refine I2.laid (a := p) (o := .lst []) (t' := s2.toks) (fun b u q => Heap.get?_push_of_some _ q) (Nat.le_of_eq hp) ⟨Nat.zero_le _, [], 0, .nil, ?_⟩
    rw [← hp]
    exact Heap.get?_push_size _ rfl
  have hf3 : ∀ b ∈ fp, FpOk X pins (upd H2 p (.lst [])) b := fun b hb => by
    obtain ⟨o, ho, _⟩ := T.obj _ _ st2 b hb
    have : b ≠ p := by rw [← hp]; exact Nat.ne_of_lt (Heap.lt_size ho)
    exact ⟨by rw [upd_ne this]; exact (f2 b hb).1, (f2 b hb).2⟩
  generalize hs3 : ({ s2 with heap := s2.heap.push { cls := .type "list", dict := none, data := .seq ([] : List Value).toArray } } : Shared) = s3 at *
  have st3 : tn 0 s3.heap := by rw [← hs3]; exact T.keep _ _ _ st2 fun b _ o e => Heap.get?_push_of_some _ e
  generalize hH3 : upd H2 p (.lst []) = H3 at *
  refine wpAny_newFunctionEnv hcell (by intro y hy; simp at hy) (fun h1 hns1 hsb1 => ?_) hkind
  generalize hC : s3.heap.objs.size = C at *
  have keep : ∀ b u, s3.heap.get? b = some u → h1.get? b = some u := fun b u q =>
    hsb1.extBut b u (by rw [← hC]; exact Nat.ne_of_lt (Heap.lt_size q)) (Heap.get?_push_of_some _ q)
  have fpC : ∀ b ∈ fp, b ≠ C := fun b hb => by
    obtain ⟨o, ho, _⟩ := T.obj _ _ st3 b hb
    rw [← hC]; exact Nat.ne_of_lt (Heap.lt_size ho)
  have hCn : H3 C = none := I3.hok.fresh (Nat.le_of_eq hC)
  have ok' : (cxComp X scope N cl C s3 H3 fp).Ok := by
    refine ⟨I3.mod, hkind, I3.ok.glob, I3.ok.blt, Nat.le_of_eq hC, fun x y c a b => I3.ok.inj x y c (hcl1 x c a) (hcl1 y c b), fun x hx => ?_, fun _ _ z => Bool.noConfusion (show false = true from z), I3.ok.hd, I3.ok.frames, .inl rfl, fun b hb => ⟨fpC b hb, fun x c q => (hf3 b hb).2.2.2.2.1 x c (hcl1 x c q)⟩,
      I3.bs, Nat.le_trans I3.ok.bsz I3.sz, fun b o e hb => ?_, fun b hb z => ?_, I3.stack, I3.stkFree⟩
    · have hx' : (relabel scope X.env).names.lookup x = some .cell ∨ (relabel scope X.env).names.lookup x = some .free := hx
      rcases hx' with z | z
      · rcases lookup_relabel_mem z with y | ⟨_, y⟩
        · exact absurd rfl (hcell _ y)
        · exact hcl2 x y
      · rcases lookup_relabel_mem z with y | ⟨y, _⟩
        · exact hcl2 x y
        · cases y
    · rcases (hf3 b hb).2.2.2.1 with z | z
      · exact I3.ok.noex b o e z
      · exact absurd (Nat.lt_of_lt_of_le (Heap.lt_size e) (Nat.le_trans I3.ok.bsz z)) (Nat.lt_irrefl _)
    · rcases List.mem_cons.mp (I3.stkSub b z) with q | q
      · exact (hf3 b hb).2.1 q
      · exact (hf3 b hb).2.2.1 q
  have J0 : Inv (cxComp X scope N cl C s3 H3 fp) [] (σ0 σ) H3 { s3 with heap := h1, toks := s3.toks + ([] : List (Str × Value)).length } := by
    refine ⟨ok', rfl, I3.bare, Un.kept keep, ⟨_, hns1, fun i x v a b c => ?_⟩, fun x c q => ?_, hCn, fun x c q => I3.freeC x c (hcl1 x c q), fun q hq => absurd (show q ∈ ([] : List (Addr × Obj)) from hq) (by simp), I3.hok.kept keep, (hσ σ).1⟩
    · obtain ⟨hf, j, hj, hv⟩ := (hσ σ).2 i x v a b
      have hm := mem_of_lookupF hf
      obtain ⟨m, hn, hl⟩ := id I3.loc
      have hk := hfr _ hm rfl
      have hvis : Vis X.env.scope x := hk.elim (fun z => .inr (.inl z)) fun z => .inr (.inr z)
      obtain ⟨u, r, lk⟩ := hl j x v hj hv hvis
      refine ⟨u, r, .inr ⟨lookup_relabel_free hf, ?_⟩⟩
      obtain ⟨c', hc'⟩ := hcl2 x hm
      refine ⟨c', hc', ?_⟩
      have hx := hcl1 x c' hc'
      rcases lk with ⟨kl, _⟩ | ⟨_, c2, e2, o2, ho2, hd2⟩
      · rcases hk with z | z <;> rw [kl] at z <;> cases z
      · rw [hx] at e2
        cases e2
        exact ⟨o2, keep _ _ ho2, hd2⟩
    · obtain ⟨v, o, ho, hd⟩ := I3.cell x c (hcl1 x c q)
      exact ⟨v, o, keep _ _ ho, hd⟩
  have st4 : tn 0 h1 := T.keep _ _ _ st3 fun b _ o e => keep b o e
  have stat : ∀ {H' : Hp}, (∀ b ∈ fp, H' b = none) → ∀ b ∈ fp, FpOk (cxComp X scope N cl C s3 H3 fp) [] H' b := fun hn b hb =>
    ⟨hn b hb, fpC b hb, fun z => ok'.exfs b hb z, .inl hb, fun x c q => (hf3 b hb).2.2.2.2.1 x c (hcl1 x c q), fun q hq => absurd (show q ∈ ([] : List (Addr × Obj)) from hq) (by simp)⟩
  have back : ∀ {σ' : St} {H' : Hp} {s' : Shared} {pl : List (Addr × Obj)}, Inv (cxComp X scope N cl C s3 H3 fp) pl σ' H' s' → ∀ h', Heap.SameBut C s'.heap h' → Inv X pins σ H' { s' with heap := h' } := fun {σ' H' s' pl} J h' hsb => by
    have I5 : Inv X pins σ H' s' := Inv.call' (ch := fp) I3 J.os J.base J.hok J.bare fun b hb => ⟨(hf3 b hb).2.2.2.1, (hf3 b hb).2.1, (hf3 b hb).2.2.2.2.1, (hf3 b hb).2.2.2.2.2⟩
    refine Inv.turned (it := C) (t' := s'.toks) I5 (fun b o hb e => hsb.extBut b o hb e) J.free (fun z => ?_) (.inr ?_) (fun x c q z => ?_) fun q hq z => ?_
    · exact absurd (show X.env.locals < C by rw [← hC]; exact I3.lt) (by rw [z]; exact Nat.lt_irrefl _)
    · rw [← hC]; exact I3.sz
    · obtain ⟨v, o, ho, _⟩ := I3.cell x c q
      have := Heap.lt_size ho
      rw [z, hC] at this
      exact Nat.lt_irrefl _ this
    · have := Heap.lt_size (I3.pin q hq).1
      rw [z, hC] at this
      exact Nat.lt_irrefl _ this
  have loop : codeAny (model X.prog X.w) X.A (.compLoop (.ListComp elt [⟨tg, iter, ifs, 0⟩] scope pos) 0 (.ref it) (.ref p) (compEnvC scope cl C X.env)) (compPost (model X.prog X.w) X.A X.xe none (EP X pins σ Q) (.ref p) C) { s3 with heap := h1, toks := s3.toks + ([] : List (Str × Value)).length } := by
    refine codeAny_loop rfl (fun n s' => ∃ i ys σ' H', Inv (cxComp X scope N cl C s3 H3 fp) [] σ' H' s' ∧ tn i s'.heap ∧ (∀ b ∈ fp, H' b = none) ∧ W i n ys σ' H') (fun n s' hI => ?_) m0 ⟨0, [], σ0 σ, H3, J0, st4, fun b hb => (hf3 b hb).1, w0⟩
    obtain ⟨i, ys, σ', H', J', st', fr', w'⟩ := hI
    show wpAny _ X.A ((compTurn (.ListComp elt [⟨tg, iter, ifs, 0⟩] scope pos) 0 (.ref it) (.ref p) (compEnvC scope cl C X.env)).onRaise (fun x => do noteFrame x (compEnvC scope cl C X.env); theTreesLotGoes x)) _ _ s'
    refine wpAny_noted ?_
    rw [compTurn_list]
    rcases turn i n ys σ' H' w' with ⟨stop, q⟩ | ⟨go, step⟩
    · refine wpAny_bind (wpAny_standAt (wpAny_bind (wpAny_mono (T.done (cxComp X scope N cl C s3 H3 fp) rfl rfl rfl hc i [] s' σ' H' X.xe J' (stat fr') st' stop) (fun r s4 h4 => ?_) fun _ _ x => (hxe _ _ x).elim)))
      obtain ⟨hr, I4⟩ := h4
      subst hr
      refine wpAny_pure ?_
      obtain ⟨m, hn, _⟩ := id I4.loc
      exact ⟨m, hn, fun h' hsb => ⟨.ref p, H', back I4 h' hsb, rfl, q⟩⟩
    · refine wpAny_bind (wpAny_standAt (wpAny_bind (wpAny_mono (T.item (cxComp X scope N cl C s3 H3 fp) rfl rfl rfl hc i [] s' σ' H' X.xe J' (stat fr') st' go) (fun r s4 h4 => ?_) fun _ _ x => (hxe _ _ x).elim)))
      obtain ⟨u, hr, h4⟩ := h4
      subst hr
      refine wpAny_bind (wpAny_mono h4 (fun _ s5 h5 => ?_) fun _ _ x => (hxe _ _ x).elim)
      obtain ⟨x, H5, I5, r5, y5, st5, fr5⟩ := h5
      have I5' := I5.pinned (stat fr5) (T.obj _ _ st5)
      refine wpAny_bind (wpAny_mono (hg cl C s3 H3 fp _ s5 σ' H5 x u _ I5' r5 (step x H5 y5)) (fun _ s6 h6 => ?_) fun _ _ x => (hxe _ _ x).elim)
      obtain ⟨σ6, H6, I6, q6⟩ := h6
      have again : ∀ {σ7 : St} {H7 : Hp} {s7 : Shared} {ys7 : List V}, Inv (cxComp X scope N cl C s3 H3 fp) ([] ++ pinsAt fp s5.heap) σ7 H7 s7 → (∃ m', m' < n ∧ W (i + 1) m' ys7 σ7 H7) →
          ∃ m, m < n ∧ ∃ i ys σ' H', Inv (cxComp X scope N cl C s3 H3 fp) [] σ' H' s7 ∧ tn i s7.heap ∧ (∀ b ∈ fp, H' b = none) ∧ W i m ys σ' H' := fun {σ7 H7 s7 ys7} I7 n7 => by
        obtain ⟨m', hm, w7⟩ := n7
        refine ⟨m', hm, i + 1, ys7, σ7, H7, I7.unpinned, T.keep _ _ _ st5 fun b hb o e => (I7.pin (b, o) (List.mem_append_right _ (List.mem_append_right _ (mem_pinsAt hb e)))).1, fun b hb => ?_, w7⟩
        obtain ⟨o, e, d⟩ := T.obj _ _ st5 b hb
        exact (I7.pin (b, o) (List.mem_append_right _ (List.mem_append_right _ (mem_pinsAt hb e)))).2.1
      refine wpAny_bind (wpAny_mono (ht cl C s3 H3 fp _ s6 σ6 H6 _ I6 q6) (fun ok s7 h7 => ?_) fun _ _ x => (hxe _ _ x).elim)
      obtain ⟨H7, I7, q7⟩ := h7
      cases ok with
      | false =>
        rw [if_neg Bool.false_ne_true] at q7
        exact wpAny_pure ⟨rfl, again I7 q7⟩
      | true =>
        rw [if_pos rfl] at q7
        refine wpAny_bind (wpAny_bind (wpAny_mono (he cl C s3 H3 fp _ s7 σ6 H7 _ I7 q7) (fun y s8 h8 => ?_) fun _ _ x => (hxe _ _ x).elim))
        obtain ⟨v, H8, I8, r8, hz, hH8, w8⟩ := h8
        refine wpAny_bind (wpAny_mono (mt_append (X := cxComp X scope N cl C s3 H3 fp) _ s8 σ6 H8 (.ref p) [v] (.ref p) [y] (fun x H9 => x = .non ∧ H9 = upd H8 p (.lst (ys ++ [v]))) I8 rfl (.cons r8 .nil) ⟨p, ys, v, rfl, rfl, hH8, hz, rfl, rfl⟩) (fun _ s9 h9 => ?_) fun _ _ x => (hxe _ _ x).elim)
        obtain ⟨z, H9, I9, _, _, e9⟩ := h9
        subst e9
        exact wpAny_pure (wpAny_pure ⟨rfl, again I9 w8⟩)
  exact codeAny_compStart_list loop (T.self X.A 0 _ _ _ st4 loop)
end L2
namespace L2
open PySem PySem.Spec PyProof.Rows
end L2
set_option Elab.async false
set_option linter.all false
set_option maxRecDepth 100000
set_option maxHeartbeats 4000000
namespace L2
open PySem PySem.Spec PyProof.Rows
end L2
namespace L2
open MA
end L2
namespace My
open PySem L2 MA
section
variable {P : Program} {w : World} {K : PySem.W.Frag} {mg : Str → Option Value} {base : Heap}
structure Txt (mg : Str → Option Value) : Prop where
  z_abs : mg "abs" = none
  z_len : mg "len" = none
  z_isinstance : mg "isinstance" = none
  z_range : mg "range" = none
  z_int : mg "int" = none
  z_bool : mg "bool" = none
  z_tuple : mg "tuple" = none
  z_list : mg "list" = none
  z_all : mg "all" = none
noncomputable def spMeasure : Sp := fun vs H Q _ => ∃ a b : Int, vs = [.int a, .int b] ∧ Q (.int (gI a b)) H
noncomputable def sp2 (f : Rat → Rat → Rat) (pre : Rat → Rat → Prop) : Sp := fun vs H Q _ => ∃ a b q r, vs = [a, b] ∧ ShAt H a q ∧ ShAt H b r ∧ SB 3000 q ∧ SB 3000 r ∧ pre q r ∧ ∀ v H', Same H H' → ShAt H' v (f q r) → Q v H'
noncomputable abbrev spPlus : Sp := sp2 (fun q r => q + r) (fun _ _ => True)
noncomputable abbrev spMinus : Sp := sp2 (fun q r => q - r) (fun _ _ => True)
noncomputable abbrev spTimes : Sp := sp2 (fun q r => q * r) (fun _ _ => True)
noncomputable def Shs (H : Hp) : List V → List Rat → Prop := Paired (ShAt H)
theorem Shs.same {H H' : Hp} (s : Same H H') : ∀ {xs : List V} {qs : List Rat}, Shs H xs qs → Shs H' xs qs
  | _, _, .nil => .nil
  | _, _, .cons r t => .cons (r.same s) (Shs.same s t)
theorem Paired.at' {α β : Type} {R : α → β → Prop} : ∀ {xs : List α} {ys : List β} {i : Nat} {x : α}, Paired R xs ys → xs[i]? = some x → ∃ y, ys[i]? = some y ∧ R x y
  | _, _, _, _, .nil, e => by simp at e
  | _, _, 0, _, .cons r _, e => by simp at e; subst e; exact ⟨_, rfl, r⟩
  | _, _, i + 1, x, .cons _ t, e => by
    obtain ⟨u, h1, h2⟩ := Paired.at' (i := i) (x := x) t (by simpa using e)
    exact ⟨u, by simpa using h1, h2⟩
theorem cell_at {ns : List Int} (a : Int) (h : 0 < ns.length) : ∃ z : Int, atI (ns.map V.int) (a % (((ns.map V.int).length : Nat) : Int)) = some (.int z) := by
  rw [List.length_map]
  have h0 := Int.emod_nonneg a (show ((ns.length : Nat) : Int) ≠ 0 by omega)
  have h1 := Int.emod_lt_of_pos a (show 0 < ((ns.length : Nat) : Int) by omega)
  have hk : (a % (ns.length : Int)).toNat < ns.length := by omega
  have ek : a % (ns.length : Int) = (((a % (ns.length : Int)).toNat : Nat) : Int) := by omega
  refine ⟨ns[(a % (ns.length : Int)).toNat], ?_⟩
  have q : atI (ns.map V.int) (((a % (ns.length : Int)).toNat : Nat) : Int) = some (.int ns[(a % (ns.length : Int)).toNat]) := atI_nat (by rw [List.getElem?_map, List.getElem?_eq_getElem hk] <;> rfl)
  rw [← ek] at q
  exact q
noncomputable def spLaw (K : PySem.W.Frag) : Sp := fun vs H Q _ => ∃ (a : Addr) (ns : List Int), vs = [.ref a] ∧ SqL K H a (ns.map V.int) ∧ ns.length ≤ 63 ∧ ∀ H', Q (.bl true) H'
end
end My
namespace L2
open PySem PySem.Spec PyProof.Rows
theorem Sees.none1 {X : Cx} {scope : Scope} {x : Str} : Sees X scope [x] (fun _ => [none]) := fun σ => ⟨rfl, fun i y v _ h2 => by
  match i with
  | 0 => simp at h2
  | n + 1 => simp at h2⟩
theorem pe_comp0 {X : Cx} {elt tg iter : Expr} {ifs : List Expr} {scope : Scope} {pos : Pos} {wi : TI} {g : TG} {tc : TT} {te : TE} {N : List Str} {σ0 : St → St}
    (hc : X.calm = true) (hxe : ∀ e s, X.xe e s → False) (hcell : ∀ y ∈ scope.names, y.2 ≠ .cell) (hkind : scope.kind = .function) (hnames : ∀ y ∈ scope.names, y.2 = .local → scope.names.lookup y.1 = some .local)
    (hnf : ∀ y ∈ scope.names, y.2 ≠ .free) (hσ : Sees X scope N σ0) (hi : PI X tg iter wi)
    (hg : ∀ cl C s H ex, PG (cxComp X scope N cl C s H ex) tg g) (ht : ∀ cl C s H ex, PTs (cxComp X scope N cl C s H ex) ifs tc) (he : ∀ cl C s H ex, PE (cxComp X scope N cl C s H ex) elt te)
    (hs : ∀ x, foldedSetIterable iter X.env x = pure x := by intro _; rfl) : PE X (.ListComp elt [⟨tg, iter, ifs, 0⟩] scope pos) (tComp σ0 wi g tc te) :=
  pe_comp hc hxe hcell hkind hnames (fun y hy hf => absurd hf (hnf y hy)) hσ hi hg ht he hs
end L2
set_option Elab.async false
set_option linter.all false
set_option maxRecDepth 100000
set_option maxHeartbeats 4000000
namespace L2
open PySem PySem.Spec PyProof.Rows
end L2
set_option Elab.async false
set_option linter.all false
set_option maxRecDepth 100000
set_option maxHeartbeats 4000000
namespace L2
open PySem PySem.Spec PyProof.Rows MA
end L2
namespace L2
open PySem
theorem bt_sum : bootBuiltins "sum" = some (.builtin "sum") := by decide +kernel
theorem bt_sorted : bootBuiltins "sorted" = some (.builtin "sorted") := by decide +kernel
theorem bt_min : bootBuiltins "min" = some (.builtin "min") := by decide +kernel
end L2
namespace My
open PySem L2 MA
structure Txt2 (mg : Str → Option Value) : Prop extends Txt mg where
  z_str : mg "str" = none
  z_repr : mg "repr" = none
  z_dict : mg "dict" = none
  z_sum : mg "sum" = none
  z_sorted : mg "sorted" = none
  z_max : mg "max" = none
  z_min : mg "min" = none
  z_any : mg "any" = none
  z_enumerate : mg "enumerate" = none
  z_zip : mg "zip" = none
  z_set : mg "set" = none
  z_reversed : mg "reversed" = none
  z_ValueError : mg "ValueError" = none
end My
set_option Elab.async false
set_option linter.all false
set_option maxRecDepth 100000
set_option maxHeartbeats 4000000
namespace L2
open PySem PySem.Spec PyProof.Rows
noncomputable def notStar : Expr → Bool
  | .Starred _ _ => false
  | _ => true
theorem star_cons {e : Expr} {es : List Expr} {env : Env} (h : notStar e = true) : starEach (e :: es) env = (false, eval e env) :: starEach es env := by
  cases e <;> first | rfl | exact absurd h (by simp [notStar])
section
variable {X : Cx} {e : Expr} {es : List Expr} {te : TE} {t : TA} {pos : Pos}
theorem pa_consN (ha : PE X e te) (hr : PA X es t) (hn : notStar e = true := by rfl) : PA X (e :: es) (tCons te t) := pa_cons ha hr (star_cons hn)
end
end L2
namespace L2
end L2
namespace L2
end L2
set_option Elab.async false
set_option linter.all false
set_option maxRecDepth 100000
set_option maxHeartbeats 4000000
namespace L2
open PySem PySem.Spec PyProof.Rows
theorem comp_core {X : Cx} {elt tg iter : Expr} {ifs : List Expr} {scope : Scope} {pos pos2 : Pos} {wi : TI} {g : TG} {tc : TT} {te : TE} {N : List Str} {σ0 : St → St} {pins : List (Addr × Obj)} {s : Shared} {σ : St} {H : Hp} {Q : VK} {use : Option (Value → Sem Unit)} {QQ : Value → Shared → Prop}
    (hc : X.calm = true) (hxe : ∀ e s, X.xe e s → False) (hcell : ∀ y ∈ scope.names, y.2 ≠ .cell) (hkind : scope.kind = .function) (hnames : ∀ y ∈ scope.names, y.2 = .local → scope.names.lookup y.1 = some .local)
    (hfr : ∀ y ∈ scope.names, y.2 = .free → X.env.kindOf y.1 = some .cell ∨ X.env.kindOf y.1 = some .free) (hσ : Sees X scope N σ0)
    (hi : PI X tg iter wi)
    (hg : ∀ cl C s H ex, PG (cxComp X scope N cl C s H ex) tg g) (ht : ∀ cl C s H ex, PTs (cxComp X scope N cl C s H ex) ifs tc) (he : ∀ cl C s H ex, PE (cxComp X scope N cl C s H ex) elt te)
    (hs : ∀ x, foldedSetIterable iter X.env x = pure x) (I : Inv X pins σ H s) (h : tComp σ0 wi g tc te σ H Q)
    (hend : ∀ (p C : Addr) (H' : Hp) (s' : Shared) (m : Str → Option Value) (f : Flow), Inv X pins σ H' s' → FpOk X pins H' C → s'.heap.Ns C m → (∀ h', Heap.SameBut C s'.heap h' → Inv X pins σ H' { s' with heap := h' }) → Q (.ref p) H' →
      compPost (model X.prog X.w) X.A X.xe use QQ (.ref p) C (.ok f) s') :
    wpAny (model X.prog X.w) X.A (comprehension (.ListComp elt [⟨tg, iter, ifs, 0⟩] scope pos) scope X.env pos2 (newList []) false (eval iter X.env) use) QQ X.xe s := by
  obtain ⟨cl, hclos, hcl1, hcl2⟩ := closure_of (env := X.env) (scope := scope) fun y hy hf => I.ok.has y.1 (hfr y hy hf)
  refine wpAny_comprehension_free (use := use) rfl hs hclos hkind hnames (thn (hi pins s σ H _ I h) fun v s1 h1 => thn h1 fun itv s2 h2 => ?_)
  obtain ⟨it, fp, tn, J, H2, e, I2, T, st2, f2, h3⟩ := h2
  subst e
  have hpn : H2 s2.heap.objs.size = none := I2.hok.fresh (Nat.le_refl _)
  obtain ⟨W, ⟨m0, w0⟩, turn⟩ := h3 _ hpn
  refine wpAny_newObj_type ?_
  generalize hp : s2.heap.objs.size = p at *
  have I3 : Inv X pins σ (upd H2 p (.lst [])) { s2 with heap := s2.heap.push { cls := .type "list", dict := none, data := .seq ([] : List Value).toArray } } := by
    refine I2.laid (a := p) (o := .lst []) (t' := s2.toks) (fun b u q => Heap.get?_push_of_some _ q) (Nat.le_of_eq hp) ⟨Nat.zero_le _, [], 0, .nil, ?_⟩
    rw [← hp]
    exact Heap.get?_push_size _ rfl
  have hf3 : ∀ b ∈ fp, FpOk X pins (upd H2 p (.lst [])) b := fun b hb => by
    obtain ⟨o, ho, _⟩ := T.obj _ _ st2 b hb
    have : b ≠ p := by rw [← hp]; exact Nat.ne_of_lt (Heap.lt_size ho)
    exact ⟨by rw [upd_ne this]; exact (f2 b hb).1, (f2 b hb).2⟩
  generalize hs3 : ({ s2 with heap := s2.heap.push { cls := .type "list", dict := none, data := .seq ([] : List Value).toArray } } : Shared) = s3 at *
  have st3 : tn 0 s3.heap := by rw [← hs3]; exact T.keep _ _ _ st2 fun b _ o e => Heap.get?_push_of_some _ e
  generalize hH3 : upd H2 p (.lst []) = H3 at *
  refine wpAny_newFunctionEnv hcell (by intro y hy; simp at hy) (fun h1 hns1 hsb1 => ?_) hkind
  generalize hC : s3.heap.objs.size = C at *
  have keep : ∀ b u, s3.heap.get? b = some u → h1.get? b = some u := fun b u q =>
    hsb1.extBut b u (by rw [← hC]; exact Nat.ne_of_lt (Heap.lt_size q)) (Heap.get?_push_of_some _ q)
  have fpC : ∀ b ∈ fp, b ≠ C := fun b hb => by
    obtain ⟨o, ho, _⟩ := T.obj _ _ st3 b hb
    rw [← hC]; exact Nat.ne_of_lt (Heap.lt_size ho)
  have hCn : H3 C = none := I3.hok.fresh (Nat.le_of_eq hC)
  have ok' : (cxComp X scope N cl C s3 H3 fp).Ok := by
    refine ⟨I3.mod, hkind, I3.ok.glob, I3.ok.blt, Nat.le_of_eq hC, fun x y c a b => I3.ok.inj x y c (hcl1 x c a) (hcl1 y c b), fun x hx => ?_, fun _ _ z => Bool.noConfusion (show false = true from z), I3.ok.hd, I3.ok.frames, .inl rfl, fun b hb => ⟨fpC b hb, fun x c q => (hf3 b hb).2.2.2.2.1 x c (hcl1 x c q)⟩,
      I3.bs, Nat.le_trans I3.ok.bsz I3.sz, fun b o e hb => ?_, fun b hb z => ?_, I3.stack, I3.stkFree⟩
    · have hx' : (relabel scope X.env).names.lookup x = some .cell ∨ (relabel scope X.env).names.lookup x = some .free := hx
      rcases hx' with z | z
      · rcases lookup_relabel_mem z with y | ⟨_, y⟩
        · exact absurd rfl (hcell _ y)
        · exact hcl2 x y
      · rcases lookup_relabel_mem z with y | ⟨y, _⟩
        · exact hcl2 x y
        · cases y
    · rcases (hf3 b hb).2.2.2.1 with z | z
      · exact I3.ok.noex b o e z
      · exact absurd (Nat.lt_of_lt_of_le (Heap.lt_size e) (Nat.le_trans I3.ok.bsz z)) (Nat.lt_irrefl _)
    · rcases List.mem_cons.mp (I3.stkSub b z) with q | q
      · exact (hf3 b hb).2.1 q
      · exact (hf3 b hb).2.2.1 q
  have J0 : Inv (cxComp X scope N cl C s3 H3 fp) [] (σ0 σ) H3 { s3 with heap := h1, toks := s3.toks + ([] : List (Str × Value)).length } := by
    refine ⟨ok', rfl, I3.bare, Un.kept keep, ⟨_, hns1, fun i x v a b c => ?_⟩, fun x c q => ?_, hCn, fun x c q => I3.freeC x c (hcl1 x c q), fun q hq => absurd (show q ∈ ([] : List (Addr × Obj)) from hq) (by simp), I3.hok.kept keep, (hσ σ).1⟩
    · obtain ⟨hf, j, hj, hv⟩ := (hσ σ).2 i x v a b
      have hm := mem_of_lookupF hf
      obtain ⟨m, hn, hl⟩ := id I3.loc
      have hk := hfr _ hm rfl
      have hvis : Vis X.env.scope x := hk.elim (fun z => .inr (.inl z)) fun z => .inr (.inr z)
      obtain ⟨u, r, lk⟩ := hl j x v hj hv hvis
      refine ⟨u, r, .inr ⟨lookup_relabel_free hf, ?_⟩⟩
      obtain ⟨c', hc'⟩ := hcl2 x hm
      refine ⟨c', hc', ?_⟩
      have hx := hcl1 x c' hc'
      rcases lk with ⟨kl, _⟩ | ⟨_, c2, e2, o2, ho2, hd2⟩
      · rcases hk with z | z <;> rw [kl] at z <;> cases z
      · rw [hx] at e2
        cases e2
        exact ⟨o2, keep _ _ ho2, hd2⟩
    · obtain ⟨v, o, ho, hd⟩ := I3.cell x c (hcl1 x c q)
      exact ⟨v, o, keep _ _ ho, hd⟩
  have st4 : tn 0 h1 := T.keep _ _ _ st3 fun b _ o e => keep b o e
  have stat : ∀ {H' : Hp}, (∀ b ∈ fp, H' b = none) → ∀ b ∈ fp, FpOk (cxComp X scope N cl C s3 H3 fp) [] H' b := fun hn b hb =>
    ⟨hn b hb, fpC b hb, fun z => ok'.exfs b hb z, .inl hb, fun x c q => (hf3 b hb).2.2.2.2.1 x c (hcl1 x c q), fun q hq => absurd (show q ∈ ([] : List (Addr × Obj)) from hq) (by simp)⟩
  have back : ∀ {σ' : St} {H' : Hp} {s' : Shared} {pl : List (Addr × Obj)}, Inv (cxComp X scope N cl C s3 H3 fp) pl σ' H' s' → ∀ h', Heap.SameBut C s'.heap h' → Inv X pins σ H' { s' with heap := h' } := fun {σ' H' s' pl} J h' hsb => by
    have I5 : Inv X pins σ H' s' := Inv.call' (ch := fp) I3 J.os J.base J.hok J.bare fun b hb => ⟨(hf3 b hb).2.2.2.1, (hf3 b hb).2.1, (hf3 b hb).2.2.2.2.1, (hf3 b hb).2.2.2.2.2⟩
    refine Inv.turned (it := C) (t' := s'.toks) I5 (fun b o hb e => hsb.extBut b o hb e) J.free (fun z => ?_) (.inr ?_) (fun x c q z => ?_) fun q hq z => ?_
    · exact absurd (show X.env.locals < C by rw [← hC]; exact I3.lt) (by rw [z]; exact Nat.lt_irrefl _)
    · rw [← hC]; exact I3.sz
    · obtain ⟨v, o, ho, _⟩ := I3.cell x c q
      have := Heap.lt_size ho
      rw [z, hC] at this
      exact Nat.lt_irrefl _ this
    · have := Heap.lt_size (I3.pin q hq).1
      rw [z, hC] at this
      exact Nat.lt_irrefl _ this
  have loop : codeAny (model X.prog X.w) X.A (.compLoop (.ListComp elt [⟨tg, iter, ifs, 0⟩] scope pos) 0 (.ref it) (.ref p) (compEnvC scope cl C X.env)) (compPost (model X.prog X.w) X.A X.xe use QQ (.ref p) C) { s3 with heap := h1, toks := s3.toks + ([] : List (Str × Value)).length } := by
    refine codeAny_loop rfl (fun n s' => ∃ i ys σ' H', Inv (cxComp X scope N cl C s3 H3 fp) [] σ' H' s' ∧ tn i s'.heap ∧ (∀ b ∈ fp, H' b = none) ∧ W i n ys σ' H') (fun n s' hI => ?_) m0 ⟨0, [], σ0 σ, H3, J0, st4, fun b hb => (hf3 b hb).1, w0⟩
    obtain ⟨i, ys, σ', H', J', st', fr', w'⟩ := hI
    show wpAny _ X.A ((compTurn (.ListComp elt [⟨tg, iter, ifs, 0⟩] scope pos) 0 (.ref it) (.ref p) (compEnvC scope cl C X.env)).onRaise (fun x => do noteFrame x (compEnvC scope cl C X.env); theTreesLotGoes x)) _ _ s'
    refine wpAny_noted ?_
    rw [compTurn_list]
    rcases turn i n ys σ' H' w' with ⟨stop, q⟩ | ⟨go, step⟩
    · refine wpAny_bind (wpAny_standAt (wpAny_bind (wpAny_mono (T.done (cxComp X scope N cl C s3 H3 fp) rfl rfl rfl hc i [] s' σ' H' X.xe J' (stat fr') st' stop) (fun r s4 h4 => ?_) fun _ _ x => (hxe _ _ x).elim)))
      obtain ⟨hr, I4⟩ := h4
      subst hr
      refine wpAny_pure ?_
      obtain ⟨m, hn, _⟩ := id I4.loc
      have I5 : Inv X pins σ H' s4 := Inv.call' (ch := fp) I3 I4.os I4.base I4.hok I4.bare fun b hb => ⟨(hf3 b hb).2.2.2.1, (hf3 b hb).2.1, (hf3 b hb).2.2.2.2.1, (hf3 b hb).2.2.2.2.2⟩
      exact hend p C H' s4 m _ I5 (I3.fpOk (Nat.le_of_eq hC) I4.free) hn (fun h' hsb => back I4 h' hsb) q
    · refine wpAny_bind (wpAny_standAt (wpAny_bind (wpAny_mono (T.item (cxComp X scope N cl C s3 H3 fp) rfl rfl rfl hc i [] s' σ' H' X.xe J' (stat fr') st' go) (fun r s4 h4 => ?_) fun _ _ x => (hxe _ _ x).elim)))
      obtain ⟨u, hr, h4⟩ := h4
      subst hr
      refine wpAny_bind (wpAny_mono h4 (fun _ s5 h5 => ?_) fun _ _ x => (hxe _ _ x).elim)
      obtain ⟨x, H5, I5, r5, y5, st5, fr5⟩ := h5
      have I5' := I5.pinned (stat fr5) (T.obj _ _ st5)
      refine wpAny_bind (wpAny_mono (hg cl C s3 H3 fp _ s5 σ' H5 x u _ I5' r5 (step x H5 y5)) (fun _ s6 h6 => ?_) fun _ _ x => (hxe _ _ x).elim)
      obtain ⟨σ6, H6, I6, q6⟩ := h6
      have again : ∀ {σ7 : St} {H7 : Hp} {s7 : Shared} {ys7 : List V}, Inv (cxComp X scope N cl C s3 H3 fp) ([] ++ pinsAt fp s5.heap) σ7 H7 s7 → (∃ m', m' < n ∧ W (i + 1) m' ys7 σ7 H7) →
          ∃ m, m < n ∧ ∃ i ys σ' H', Inv (cxComp X scope N cl C s3 H3 fp) [] σ' H' s7 ∧ tn i s7.heap ∧ (∀ b ∈ fp, H' b = none) ∧ W i m ys σ' H' := fun {σ7 H7 s7 ys7} I7 n7 => by
        obtain ⟨m', hm, w7⟩ := n7
        refine ⟨m', hm, i + 1, ys7, σ7, H7, I7.unpinned, T.keep _ _ _ st5 fun b hb o e => (I7.pin (b, o) (List.mem_append_right _ (List.mem_append_right _ (mem_pinsAt hb e)))).1, fun b hb => ?_, w7⟩
        obtain ⟨o, e, d⟩ := T.obj _ _ st5 b hb
        exact (I7.pin (b, o) (List.mem_append_right _ (List.mem_append_right _ (mem_pinsAt hb e)))).2.1
      refine wpAny_bind (wpAny_mono (ht cl C s3 H3 fp _ s6 σ6 H6 _ I6 q6) (fun ok s7 h7 => ?_) fun _ _ x => (hxe _ _ x).elim)
      obtain ⟨H7, I7, q7⟩ := h7
      cases ok with
      | false =>
        rw [if_neg Bool.false_ne_true] at q7
        exact wpAny_pure ⟨rfl, again I7 q7⟩
      | true =>
        rw [if_pos rfl] at q7
        refine wpAny_bind (wpAny_bind (wpAny_mono (he cl C s3 H3 fp _ s7 σ6 H7 _ I7 q7) (fun y s8 h8 => ?_) fun _ _ x => (hxe _ _ x).elim))
        obtain ⟨v, H8, I8, r8, hz, hH8, w8⟩ := h8
        refine wpAny_bind (wpAny_mono (mt_append (X := cxComp X scope N cl C s3 H3 fp) _ s8 σ6 H8 (.ref p) [v] (.ref p) [y] (fun x H9 => x = .non ∧ H9 = upd H8 p (.lst (ys ++ [v]))) I8 rfl (.cons r8 .nil) ⟨p, ys, v, rfl, rfl, hH8, hz, rfl, rfl⟩) (fun _ s9 h9 => ?_) fun _ _ x => (hxe _ _ x).elim)
        obtain ⟨z, H9, I9, _, _, e9⟩ := h9
        subst e9
        exact wpAny_pure (wpAny_pure ⟨rfl, again I9 w8⟩)
  exact codeAny_compStart_list loop (T.self X.A 0 _ _ _ st4 loop)
theorem ps_comp {X : Cx} {elt tg iter : Expr} {ifs : List Expr} {scope : Scope} {pos spos py : Pos} {wi : TI} {g : TG} {tc : TT} {te : TE} {N : List Str} {σ0 : St → St} {i : Nat} {y : Str}
    (hN : X.N.Nodup) (hiy : X.N[i]? = some y) (hy : Loc X.env.scope y)
    (hc : X.calm = true) (hxe : ∀ e s, X.xe e s → False) (hcell : ∀ y ∈ scope.names, y.2 ≠ .cell) (hkind : scope.kind = .function) (hnames : ∀ y ∈ scope.names, y.2 = .local → scope.names.lookup y.1 = some .local)
    (hfr : ∀ y ∈ scope.names, y.2 = .free → X.env.kindOf y.1 = some .cell ∨ X.env.kindOf y.1 = some .free) (hσ : Sees X scope N σ0)
    (hi : PI X tg iter wi)
    (hg : ∀ cl C s H ex, PG (cxComp X scope N cl C s H ex) tg g) (ht : ∀ cl C s H ex, PTs (cxComp X scope N cl C s H ex) ifs tc) (he : ∀ cl C s H ex, PE (cxComp X scope N cl C s H ex) elt te)
    (hs : ∀ x, foldedSetIterable iter X.env x = pure x := by intro _; rfl) (hsw : swapsWith (.ListComp elt [⟨tg, iter, ifs, 0⟩] scope pos) (some (.Name y py)) spos.line X.env = pure true := by rfl)
    (hf : X.fn y = true ∨ X.env.scope.names.lookup y = some .local := by first | exact .inl rfl | exact .inr rfl | assumption) :
    PS X (.Assign [.Name y py] (.ListComp elt [⟨tg, iter, ifs, 0⟩] scope pos) spos) (tAsg (tComp σ0 wi g tc te) (gName i)) := by
  intro pins s σ H D I h
  rw [exec_Assign_Name_used _ _ _ _ hsw]
  refine wpAny_bind (wpAny_standAt (wpAny_bind ?_))
  show wpAny _ X.A (do let _ ← comprehension (.ListComp elt [⟨tg, iter, ifs, 0⟩] scope pos) scope X.env _ (newList []) false (eval iter X.env) (some (assign (.Name y py) X.env))) _ _ s
  refine wpAny_bind (wpAny_mono (comp_core (use := some (assign (.Name y py) X.env)) (QQ := fun _ s' => SP X pins D .next s') hc hxe hcell hkind hnames hfr hσ hi hg ht he hs I h ?_) (fun _ s' hq => wpAny_pure (wpAny_pure hq)) fun _ _ e => e)
  intro p C H' s' m f I5 fC hn back q
  show wpAny _ X.A (assign (.Name y py) X.env (.ref p)) _ _ _
  have hnC := id hn
  obtain ⟨o, es, ep, ho, hd, _⟩ := hnC
  have Ip := I5.pinned (fp := [C]) (fun b hb => by rw [List.mem_singleton.mp hb]; exact fC) (fun b hb => ⟨o, by rw [List.mem_singleton.mp hb]; exact ho, fun v z => by rw [hd] at z; cases z⟩)
  refine wpAny_mono (pg_name (pos := py) hN hiy hy hf (pins ++ pinsAt [C] s'.heap) s' σ H' (.ref p) (.ref p) _ Ip rfl q) (fun _ s2 h2 => ?_) fun _ _ e => e
  obtain ⟨σ2, H2, I2, q2⟩ := h2
  have hp2 := I2.pin (C, o) (List.mem_append_right _ (List.mem_append_right _ (mem_pinsAt (by simp) ho)))
  refine ⟨m, hn.at' (fun o' e => ?_), fun h' hsb => ⟨σ2, H2, ?_, q2⟩⟩
  · rw [ho] at e; cases e; exact hp2.1
  · exact Inv.turned (it := C) (t' := s2.toks) I2.unpinned (fun b o hb e => hsb.extBut b o hb e) hp2.2.1 hp2.2.2.1 fC.2.2.2.1 fC.2.2.2.2.1 fC.2.2.2.2.2
end L2
namespace L2
open PySem PySem.Spec PyProof.Rows
end L2
set_option Elab.async false
set_option linter.all false
set_option maxRecDepth 100000
set_option maxHeartbeats 4000000
namespace L2
open PySem PySem.Spec PyProof.Rows MA
theorem Sees.frees {X : Cx} {scope : Scope} (ks : List Str) (fs : List (Str × Nat)) (h : ∀ p ∈ fs, scope.names.lookup p.1 = some .free ∧ X.N[p.2]? = some p.1) :
    Sees X scope (ks ++ fs.map (·.1)) (fun σ => ks.map (fun _ => none) ++ fs.map fun p => σ.getD p.2 none) := by
  intro σ
  refine ⟨by simp, fun i x v h1 h2 => ?_⟩
  by_cases hi : i < ks.length
  · rw [List.getElem?_append_left (by simpa using hi), List.getElem?_map] at h2
    cases e : ks[i]? with
    | none => rw [e] at h2; cases h2
    | some y => rw [e] at h2; cases h2
  · rw [List.getElem?_append_right (by omega), List.getElem?_map] at h1
    rw [List.getElem?_append_right (by simp; omega), List.getElem?_map, List.length_map] at h2
    cases e : fs[i - ks.length]? with
    | none => rw [e] at h1; cases h1
    | some p =>
      rw [e] at h1 h2
      cases h1
      obtain ⟨a, b⟩ := h p (List.mem_of_getElem? e)
      refine ⟨a, p.2, b, ?_⟩
      have h3 : σ.getD p.2 none = some v := by simpa using h2
      rw [List.getD_eq_getElem?_getD] at h3
      cases z : σ[p.2]? with
      | none => rw [z] at h3; cases h3
      | some u => rw [z] at h3; exact congrArg some h3
theorem comp_rng {n : Nat} {lo : Int} {te : TE} {H : Hp} {R : Addr → Hp → Prop} {fs : St} (Pv : Addr → Nat → List V → Hp → Prop) (hn : n ≤ 100000) (hp0 : ∀ p, H p = none → Pv p 0 [] (upd H p (.lst [])))
    (hte : ∀ p i ys H', H p = none → i < n → ys.length = i → Pv p i ys H' → H' p = some (.lst ys) → ∀ Q' : VK, (∀ v H'', H'' p = some (.lst ys) → Pv p (i + 1) (ys ++ [v]) (upd H'' p (.lst (ys ++ [v]))) → Q' v H'') → te (some (.int (lo + i)) :: fs) H' Q')
    (q : ∀ p ys H', H p = none → Pv p n ys H' → H' p = some (.lst ys) → ys.length = n → R p H') :
    ∀ p, H p = none → ∃ W : Nat → Nat → List V → St → Hp → Prop, (∃ m, W 0 m [] (none :: fs) (upd H p (.lst []))) ∧ ∀ i m ys σ' H', W i m ys σ' H' →
      ((Itr lo n).stop i H' ∧ R p H') ∨ ((Itr lo n).go i H' ∧ ∀ x H2, (Itr lo n).yld i H' x H2 → gName 0 x σ' H2 fun σ2 H3 => tTT σ2 H3 fun b H4 => if b = true then te σ2 H4 fun v H5 => ys.length < sizeLine ∧ H5 p = some (.lst ys) ∧ (∃ m', m' < m ∧ W (i + 1) m' (ys ++ [v]) σ2 (upd H5 p (.lst (ys ++ [v]))))
        else ∃ m', m' < m ∧ W (i + 1) m' ys σ2 H4) := by
  intro p hp
  refine ⟨fun i m ys σ' H' => m = n - i ∧ i ≤ n ∧ ys.length = i ∧ Pv p i ys H' ∧ H' p = some (.lst ys) ∧ ∃ o, σ' = o :: fs, ⟨n, by simp, Nat.zero_le _, rfl, hp0 p hp, upd_same, _, rfl⟩, ?_⟩
  rintro i m ys σ' H' ⟨rfl, hi, hl, pv, hp', o, rfl⟩
  by_cases hlt : i < n
  · refine .inr ⟨hlt, fun x H2 hy => ?_⟩
    obtain ⟨rfl, rfl⟩ := hy
    change te (some (.int (lo + i)) :: fs) H2 _
    refine hte p i ys H2 hp hlt hl pv hp' _ fun v H5 h5 pv5 => ⟨?_, h5, n - (i + 1), by omega, rfl, hlt, by simp [hl], pv5, upd_same, _, rfl⟩
    rw [hl, sizeLine_eq]; omega
  · have e : i = n := by omega
    subst e
    exact .inl ⟨Nat.le_refl _, q p ys H' hp pv hp' hl⟩
end L2
namespace L2
open PySem
theorem fr_nil {C : Str × Nat → Prop} : ∀ p ∈ ([] : List (Str × Nat)), C p := fun _ h => nomatch h
theorem fr_cons {C : Str × Nat → Prop} {a : Str × Nat} {l : List (Str × Nat)} (h : C a) (t : ∀ p ∈ l, C p) : ∀ p ∈ a :: l, C p := fun p hp => (List.mem_cons.mp hp).elim (fun e => e ▸ h) (t p)
theorem hfr_of {scope : Scope} {env : Env} (h : scope.names.all (fun y => y.2 != .free || env.kindOf y.1 == some .cell || env.kindOf y.1 == some .free) = true) : ∀ y ∈ scope.names, y.2 = .free → env.kindOf y.1 = some .cell ∨ env.kindOf y.1 = some .free := by
  intro y hy hf
  have := List.all_eq_true.mp h y hy
  rw [hf] at this
  simpa using this
end L2
set_option Elab.async false
set_option linter.all false
set_option maxRecDepth 100000
set_option maxHeartbeats 4000000
namespace L2
open PySem PySem.Spec PyProof.Rows
section
variable {X : Cx}
noncomputable def rSum (K : PySem.W.Frag) : List V → Hp → VK → Prop := fun xs H Q => ∃ (l : Addr) (ns : List Int), xs = [.ref l] ∧ SqL K H l (ns.map V.int) ∧ Q (.int ns.sum) H
theorem call_sum (hc : X.calm = true) : CallR X (.builtin "sum") (rSum X.K) := by
  intro pins s σ H xs us Q I r h
  obtain ⟨l, ns, rfl, hl, q⟩ := h
  obtain ⟨u, rfl, ru⟩ := vals1 r
  cases ru
  obtain ⟨its, rv, p, hz⟩ := I.list hl
  have hi := intsAre_of rv
  obtain ⟨ys, e⟩ := hi.allInts.items
  have hnum : ns = ys.toList.map (·.1) := by
    have h1 := hi.numsOf
    have h2 := nums_intItems ys
    rw [← e] at h2
    rw [← h1, ← h2]
  refine sum_intListG (I.ok.hd hc) (xs := ys) (by rw [← e]; exact p.isList) fun h' tk t' hk => ?_
  refine ⟨.int ns.sum, H, I.kept (t' := tk) hk, ⟨t', ?_⟩, q⟩
  rw [preSum_eq, List.take_of_length_le (by simp), hnum]
end
end L2
namespace L2
open PySem PySem.Spec PyProof.Rows MA
section
variable {X : Cx}
theorem ip_mul : PIp X .Mult (fun x y H Q => ∃ i j, x = .int i ∧ y = .int j ∧ CMul i j ∧ Q (.int (i * j)) H) := by
  intro pins s σ H x y v u Q I r1 r2 h
  obtain ⟨i, j, e1, e2, hc, q⟩ := h
  subst e1; subst e2
  obtain ⟨t, rfl⟩ := r1
  obtain ⟨t', rfl⟩ := r2
  exact imul_int ⟨.int _, H, I.tok _, ⟨_, rfl⟩, q⟩ hc.ok
end
theorem comp_lst {K : PySem.W.Frag} {a : Addr} {xs : List V} {te : TE} {H : Hp} {R : Addr → Hp → Prop} {fs : St} (Pv : Addr → Nat → List V → Hp → Prop) (hn : xs.length ≤ 100000) (hp0 : ∀ p, H p = none → Pv p 0 [] (upd H p (.lst [])))
    (hl : ∀ p i ys H', H p = none → Pv p i ys H' → H' a = some (.lst xs))
    (hte : ∀ p i ys H' x, H p = none → xs[i]? = some x → ys.length = i → Pv p i ys H' → H' p = some (.lst ys) → ∀ Q' : VK, (∀ v H'', H'' p = some (.lst ys) → Pv p (i + 1) (ys ++ [v]) (upd H'' p (.lst (ys ++ [v]))) → Q' v H'') → te (some x :: fs) H' Q')
    (q : ∀ p ys H', H p = none → Pv p xs.length ys H' → H' p = some (.lst ys) → ys.length = xs.length → R p H') :
    ∀ p, H p = none → ∃ W : Nat → Nat → List V → St → Hp → Prop, (∃ m, W 0 m [] (none :: fs) (upd H p (.lst []))) ∧ ∀ i m ys σ' H', W i m ys σ' H' →
      ((Itl K a).stop i H' ∧ R p H') ∨ ((Itl K a).go i H' ∧ ∀ x H2, (Itl K a).yld i H' x H2 → gName 0 x σ' H2 fun σ2 H3 => tTT σ2 H3 fun b H4 => if b = true then te σ2 H4 fun v H5 => ys.length < sizeLine ∧ H5 p = some (.lst ys) ∧ (∃ m', m' < m ∧ W (i + 1) m' (ys ++ [v]) σ2 (upd H5 p (.lst (ys ++ [v]))))
        else ∃ m', m' < m ∧ W (i + 1) m' ys σ2 H4) := by
  intro p hp
  refine ⟨fun i m ys σ' H' => m = xs.length - i ∧ i ≤ xs.length ∧ ys.length = i ∧ Pv p i ys H' ∧ H' p = some (.lst ys) ∧ ∃ o, σ' = o :: fs, ⟨xs.length, by simp, Nat.zero_le _, rfl, hp0 p hp, upd_same, _, rfl⟩, ?_⟩
  rintro i m ys σ' H' ⟨rfl, hi, hlen, pv, hp', o, rfl⟩
  have hla := hl p i ys H' hp pv
  by_cases hlt : i < xs.length
  · refine .inr ⟨⟨xs, xs[i], SqL.of hla, List.getElem?_eq_getElem hlt⟩, fun x H2 hy => ?_⟩
    obtain ⟨rfl, hx⟩ := hy
    have hx' := hx xs (SqL.of hla)
    change te (some x :: fs) H2 _
    refine hte p i ys H2 x hp hx' hlen pv hp' _ fun v H5 h5 pv5 => ⟨?_, h5, xs.length - (i + 1), by omega, rfl, hlt, by simp [hlen], pv5, upd_same, _, rfl⟩
    rw [hlen, sizeLine_eq]; omega
  · have e : i = xs.length := by omega
    subst e
    exact .inl ⟨⟨xs, SqL.of hla, Nat.le_refl _⟩, q p ys H' hp pv hp' hlen⟩
noncomputable def PrAt (H : Hp) (v : V) (p : Int × Int) : Prop := ∃ a, v = .ref a ∧ H a = some (.tup [.int p.1, .int p.2])
noncomputable def Prs (H : Hp) : List V → List (Int × Int) → Prop := Paired (PrAt H)
theorem PrAt.same {H H' : Hp} {v : V} {p : Int × Int} (s : Same H H') (h : PrAt H v p) : PrAt H' v p := let ⟨a, e, h⟩ := h; ⟨a, e, s _ _ h⟩
theorem PrAt.updL {H : Hp} {l : Addr} {zs : List V} {o : HO} {v : V} {p : Int × Int} (hl : H l = some (.lst zs)) (h : PrAt H v p) : PrAt (upd H l o) v p := by
  obtain ⟨a, rfl, ha⟩ := h
  exact ⟨a, rfl, by rw [upd_ne (ne_of ha hl (by intro z; cases z))]; exact ha⟩
theorem Prs.same {H H' : Hp} (s : Same H H') : ∀ {xs : List V} {ps : List (Int × Int)}, Prs H xs ps → Prs H' xs ps
  | _, _, .nil => .nil
  | _, _, .cons r t => .cons (r.same s) (Prs.same s t)
theorem Prs.updL {H : Hp} {l : Addr} {zs : List V} {o : HO} (hl : H l = some (.lst zs)) : ∀ {xs : List V} {ps : List (Int × Int)}, Prs H xs ps → Prs (upd H l o) xs ps
  | _, _, .nil => .nil
  | _, _, .cons r t => .cons (r.updL hl) (Prs.updL hl t)
theorem Prs.snoc {H : Hp} {v : V} {p : Int × Int} (h : PrAt H v p) : ∀ {xs : List V} {ps : List (Int × Int)}, Prs H xs ps → Prs H (xs ++ [v]) (ps ++ [p])
  | _, _, .nil => .cons h .nil
  | _, _, .cons r t => .cons r (Prs.snoc h t)
end L2
set_option Elab.async false
set_option linter.all false
set_option maxRecDepth 100000
set_option maxHeartbeats 4000000
namespace L2
open PySem PySem.Spec PyProof.Rows
section
variable {X : Cx} {e : Expr} {t : TA} {p p3 p4 pos : Pos}
noncomputable def tSortR (b : Bool) (t : TA) : TE := fun σ H Q => t σ H fun vs H1 => ∃ (l : Addr) (ns : List Int), vs = [.ref l] ∧ H1 l = some (.lst (ns.map V.int)) ∧ ns.length < 64 ∧ ∀ (q : Addr) (ms : List Int), H1 q = none → ms.Perm ns → Ordered b ms → Q (.ref q) (upd H1 q (.lst (ms.map V.int)))
theorem pe_sortedR {b : Bool} {kk : _} (hg : Gl X "sorted") (hm : X.mg "sorted" = none) (ha : PA X [e] t)
    (he : backTo pos (starEach [e] X.env) = (false, eval e X.env) :: backTo pos (starEach [] X.env) := by rfl) (hpl : (backTo pos (starEach [e] X.env)).any (·.1) = false := by rfl) :
    PE X (.Call (.Name "sorted" p) [e] [⟨some "reverse", .Constant (.bool b) kk p3, p4⟩] pos) (tSortR b t) := by
  intro pins s σ H Q I h
  refine wpAny_Call_Name_kw (ld_blt I hg hm bt_sorted ?_ (by decide) (by decide))
  refine callWith_kw (thn (ha pos pins s σ H _ I h) fun us s1 ⟨vs, H1, I1, r1, q1⟩ => ?_) he hpl
  obtain ⟨l, ns, rfl, hl, h64, q⟩ := q1
  obtain ⟨u, rfl, ru⟩ := vals1 r1
  cases ru
  show wpAny _ X.A (evalAll [(do let v ← eval (.Constant (.bool b) kk p3) X.env; standAt pos; pure v)]) _ _ s1
  refine wpAny_evalAll_cons (wpAny_bind (Constant_bool (wpAny_bind (wpAny_standAt (wpAny_pure (wpAny_evalAll_nil ?_))))))
  show wpAny _ X.A (call (.builtin "sorted") [.ref l] [(Str.ofString "reverse", .bool b)]) _ _ _
  obtain ⟨its, rv, pl, hz⟩ := I1.list (SqL.of (K := X.K) hl)
  have hlen := rv.length
  rw [List.length_map] at hlen
  refine sorted_ints_rev pl.isList (intsAre_of rv) (by omega) fun out ms a1 a2 a3 => ?_
  obtain ⟨ee, he'⟩ := sortedAll_at s1.heap its out
  have hml : ms.length = ns.length := a2.length_eq
  refine ⟨.ref (s1.heap.objs.size + 1), _, I1.laid (t' := s1.toks) (a := s1.heap.objs.size + 1) (o := .lst (ms.map V.int)) (fun b o q => sortedAll_old q) (Nat.le_succ _) ⟨?_, out.toList, ee, vals_ints a1, ?_⟩, rfl, q _ ms (I1.hok.fresh (Nat.le_succ _)) a2 a3⟩
  · rw [List.length_map, hml, sizeLine_eq]; omega
  · rw [he']
end
end L2
namespace L2
open PySem PySem.Spec PyProof.Rows MA
section
variable {X : Cx}
theorem ix_tup0 : IxR X (fun x y H Q => ∃ p xs i v, x = .ref p ∧ y = .int i ∧ H p = some (.tup xs) ∧ atI xs i = some v ∧ Q v H) := by
  intro value slice pins s σ H x y v u Q I rx ry h hs
  obtain ⟨p, xs, i, w', e1, e2, hp, ha, q⟩ := h
  exact ix_tup value slice pins s σ H x y v u Q I rx ry ⟨p, xs, i, w', e1, e2, SqT.of hp, ha, q⟩ hs
noncomputable def rSum0 : List V → Hp → VK → Prop := fun xs H Q => ∃ (l : Addr) (ns : List Int), xs = [.ref l] ∧ H l = some (.lst (ns.map V.int)) ∧ Q (.int ns.sum) H
theorem call_sum0 (hc : X.calm = true) : CallR X (.builtin "sum") rSum0 := by
  intro pins s σ H xs us Q I r h
  obtain ⟨l, ns, e, hl, q⟩ := h
  exact call_sum hc pins s σ H xs us Q I r ⟨l, ns, e, SqL.of hl, q⟩
end
end L2
namespace L2
open PySem PySem.Spec PyProof.Rows MA
end L2
set_option Elab.async false
set_option linter.all false
set_option maxRecDepth 100000
set_option maxHeartbeats 1000000
namespace L2
open PySem PySem.Spec PyProof.Rows MA
end L2
set_option Elab.async false
set_option linter.all false
set_option maxRecDepth 100000
set_option maxHeartbeats 1000000
namespace L2
open PySem PySem.Spec PyProof.Rows
section
variable {X : Cx} {pins : List (Addr × Obj)} {σ : St} {H : Hp} {s : Shared} {h' : Heap} {fp : List Addr}
theorem Inv.turnedL {t' : Nat} (I : Inv X pins σ H s) (hf : ∀ b ∈ fp, FpOk X pins H b) (k : ∀ b o, b ∉ fp → s.heap.get? b = some o → h'.get? b = some o) : Inv X pins σ H { s with heap := h', toks := t' } := by
  have nit : ∀ b u, H b = some u → b ∉ fp := fun b u e z => by rw [(hf b z).1] at e; cases e
  have hL : X.env.locals ∉ fp := fun z => (hf _ z).2.1 rfl
  refine I.step (g' := s.gens) (d' := s.drawn) (ch := fp) (fun b hb => ⟨(hf b hb).2.2.2.1, (hf b hb).2.1, (hf b hb).2.2.2.2.1, (hf b hb).2.2.2.2.2⟩) (fun b o _ _ hc e _ => k b o hc e) (fun b o _ _ hc e _ => ⟨o.slots, k b o hc e⟩) (fun _ _ _ _ n => n)
    (fun b o hc e => ⟨o, k b o hc e⟩) (fun _ _ e => e) (fun _ _ _ e => e) (fun b ps e => ⟨#[], by rw [e]; simp⟩) (fun m hm => ?_) (fun b u e => ?_) I.bare
  · obtain ⟨o, es, ep, ho, r⟩ := hm
    exact ⟨o, es, ep, k _ o hL ho, r⟩
  · refine (I.hok b u e).stay (fun c v hc q => k c v ?_ q) (fun _ q => q) fun _ _ q => q
    rcases hc with z | z
    · rw [z]; exact nit b u e
    · exact nit c _ z
theorem Inv.turnedNew {t' : Nat} {T : Addr} {u : HO} (I : Inv X pins σ H s) (hf : ∀ b ∈ fp, FpOk X pins H b) (k : ∀ b o, b ∉ fp → s.heap.get? b = some o → h'.get? b = some o) (hT : s.heap.objs.size ≤ T) (new : ObjOk X.prog X.w (upd H T u) h' T u) :
    Inv X pins σ (upd H T u) { s with heap := h', toks := t' } := by
  have hn : H T = none := I.hok.fresh hT
  have nit : ∀ b u, H b = some u → b ∉ fp := fun b u e z => by rw [(hf b z).1] at e; cases e
  have hL : X.env.locals ∉ fp := fun z => (hf _ z).2.1 rfl
  have nT : ∀ b o, s.heap.get? b = some o → b ≠ T := fun b o e => Nat.ne_of_lt (Nat.lt_of_lt_of_le (Heap.lt_size e) hT)
  refine I.step (g' := s.gens) (d' := s.drawn) (ch := fp) (fun b hb => ⟨(hf b hb).2.2.2.1, (hf b hb).2.1, (hf b hb).2.2.2.2.1, (hf b hb).2.2.2.2.2⟩) (fun b o _ _ hc e _ => k b o hc e) (fun b o _ _ hc e _ => ⟨o.slots, k b o hc e⟩) (fun b o _ e n => by rw [upd_ne (nT b o e)]; exact n)
    (fun b o hc e => ⟨o, k b o hc e⟩) (fun b xs e => by rw [upd_ne (ne_of_none e hn)]; exact e) (fun b o v e => by rw [upd_ne (ne_of_none e hn)]; exact e) (fun b ps e => ⟨#[], by rw [upd_ne (ne_of_none e hn), e]; simp⟩) (fun m hm => ?_) (fun b v e => ?_) I.bare
  · obtain ⟨o, es, ep, ho, r⟩ := hm
    exact ⟨o, es, ep, k _ o hL ho, r⟩
  · by_cases hb : b = T
    · subst hb; rw [upd_same] at e; cases e; exact new
    · rw [upd_ne hb] at e
      refine (I.hok b v e).stay (fun c v' hc q => k c v' ?_ q) (fun c q => by rw [upd_ne (ne_of_none q hn)]; exact q) (fun c xs q => by rw [upd_ne (ne_of_none q hn)]; exact q) fun c ob q => by rw [upd_ne (ne_of_none q hn)]; exact q
      rcases hc with z | z
      · rw [z]; exact nit b v e
      · exact nit c _ z
end
noncomputable def Itz (K : PySem.W.Frag) (a b : Addr) : It :=
  ⟨fun i H => ∃ xs ys x y, SqL K H a xs ∧ SqL K H b ys ∧ xs[i]? = some x ∧ ys[i]? = some y,
   fun i H v H' => ∃ p x y, v = .ref p ∧ H p = none ∧ H' = upd H p (.tup [x, y]) ∧ ∀ xs ys, SqL K H a xs → SqL K H b ys → xs[i]? = some x ∧ ys[i]? = some y,
   fun i H => ∃ xs ys, SqL K H a xs ∧ SqL K H b ys ∧ (xs.length ≤ i ∨ ys.length ≤ i)⟩
theorem turn_zip {P : Program} {w : World} {K : PySem.W.Frag} {elts : List Expr} {c : Nat} {pos : Pos} {z TI TO i1 i2 a b : Addr} (D : ZipApart z TI TO i1 i2 a b) :
    Turn P w K (.Tuple elts c pos) (Itz K a b) [z, TI, TO, i1, i2] z (fun i h => IsZip h z TI TO .none ∧ IsPair h TI (.ref i1) (.ref i2) ∧ (∃ u v, IsPair h TO u v) ∧ h.IsListIter i1 a i ∧ h.IsListIter i2 b i) where
  mem := by simp
  obj := fun i h st x hx => by
    obtain ⟨hz, hTI, ⟨u, v, hTO⟩, ⟨o1, e1, c1, d1⟩, o2, e2, c2, d2⟩ := st
    simp only [List.mem_cons, List.not_mem_nil, or_false] at hx
    rcases hx with rfl | rfl | rfl | rfl | rfl
    · exact ⟨_, hz, fun _ q => by cases q⟩
    · exact ⟨_, hTI, fun _ q => by cases q⟩
    · exact ⟨_, hTO, fun _ q => by cases q⟩
    · exact ⟨_, e1, fun _ q => by rw [d1] at q; cases q⟩
    · exact ⟨_, e2, fun _ q => by rw [d2] at q; cases q⟩
  keep := fun i h h' st k => by
    obtain ⟨hz, hTI, ⟨u, v, hTO⟩, h1, h2⟩ := st
    exact ⟨k z (by simp) _ hz, k TI (by simp) _ hTI, ⟨u, v, k TO (by simp) _ hTO⟩, h1.at fun o e => k i1 (by simp) o e, h2.at fun o e => k i2 (by simp) o e⟩
  item := by
    intro X hP hw hK hc i pins s σ H E I hf st hg
    subst hP hw hK
    obtain ⟨xs, ys, x, y, hq1, hq2, hx, hy⟩ := hg
    obtain ⟨its1, rv1, p1, _⟩ := I.list hq1
    obtain ⟨its2, rv2, p2, _⟩ := I.list hq2
    obtain ⟨u, hu, ru⟩ := rv1.get hx
    obtain ⟨v, hv, rv⟩ := rv2.get hy
    obtain ⟨hz, hTI, ⟨u0, v0, hTO⟩, h1, h2⟩ := st
    refine wpAny_pyNext_zip_item D hz hTI hTO h1 h2 p1.isList p2.isList (x := u) (y := v) (by simpa using hu) (by simpa using hv) fun h' a1 a2 a3 a4 a5 a6 hk => ⟨_, rfl, ?_⟩
    have lt : ∀ {c o}, s.heap.get? c = some o → s.heap.objs.size ≠ c := fun e => Nat.ne_of_gt (Heap.lt_size e)
    refine wpAny_letOwnedTupleGo_zip (s := { s with heap := h' }) a1 fun h'' b1 sb => ?_
    have hn : H s.heap.objs.size = none := I.hok.fresh (Nat.le_refl _)
    have kk : ∀ c o, c ∉ [z, TI, TO, i1, i2] → s.heap.get? c = some o → h''.get? c = some o := fun c o hc' e => by
      simp only [List.mem_cons, List.not_mem_nil, or_false, not_or] at hc'
      obtain ⟨n1, n2, n3, n4, n5⟩ := hc'
      exact sb.extBut _ _ n1 (hk c o n1 n3 n4 n5 e)
    have T1 : IsPair h'' s.heap.objs.size u v := sb.extBut _ _ (lt hz) a5
    refine ⟨.ref s.heap.objs.size, upd H s.heap.objs.size (.tup [x, y]), I.turnedNew (t' := s.toks) hf kk (Nat.le_refl _) ⟨by show 2 ≤ _; decide, [u, v], .cons ru (.cons rv .nil), _, T1, rfl, _, rfl, rfl⟩, rfl, ⟨_, x, y, rfl, hn, rfl, fun xs' ys' q1 q2 => ?_⟩, ⟨b1, ?_, ⟨_, _, sb.extBut _ _ D.TOz a2⟩, a3.extBut sb.extBut D.i1z, a4.extBut sb.extBut D.i2z⟩, fun b hb => ?_⟩
    · rw [I.list_inj q1 hq1, I.list_inj q2 hq2]; exact ⟨hx, hy⟩
    · exact sb.extBut _ _ D.TIz (hk _ _ D.TIz D.TITO D.TIi1 D.TIi2 hTI)
    · rw [upd_ne]
      · exact (hf b hb).1
      · simp only [List.mem_cons, List.not_mem_nil, or_false] at hb
        obtain ⟨o1, e1, _, _⟩ := h1
        obtain ⟨o2, e2, _, _⟩ := h2
        rcases hb with rfl | rfl | rfl | rfl | rfl
        · exact (lt hz).symm
        · exact (lt hTI).symm
        · exact (lt hTO).symm
        · exact (lt e1).symm
        · exact (lt e2).symm
  done := by
    intro X hP hw hK hc i pins s σ H E I hf st hg
    subst hP hw hK
    obtain ⟨xs, ys, hq1, hq2, hx⟩ := hg
    obtain ⟨its1, rv1, p1, _⟩ := I.list hq1
    obtain ⟨its2, rv2, p2, _⟩ := I.list hq2
    have l1 := rv1.length
    have l2 := rv2.length
    obtain ⟨hz, hTI, ⟨u0, v0, hTO⟩, h1, h2⟩ := st
    refine wpAny_pyNext_zip_end (I.ok.hd hc) D hz hTI hTO h1 h2 p1.isList p2.isList (by simp; omega) fun h' hk => ⟨rfl, I.turnedL (t' := s.toks) hf fun c o hc' e => ?_⟩
    simp only [List.mem_cons, List.not_mem_nil, or_false, not_or] at hc'
    obtain ⟨n1, n2, n3, n4, n5⟩ := hc'
    exact hk c o n1 n3 n4 n5 e
  self := fun _ _ _ _ _ st h => wpAny_pyIter_zip st.1 h
noncomputable def iZip (K : PySem.W.Frag) (ta : TA) : TI := fun σ H R => ta σ H fun vs H1 => ∃ a b, vs = [.ref a, .ref b] ∧ (∃ xs, SqL K H1 a xs) ∧ (∃ ys, SqL K H1 b ys) ∧ R (Itz K a b) H1
theorem zip_apart {n a b : Nat} (ha : a < n) (hb : b < n) : ZipApart (n + 4) (n + 2) (n + 3) n (n + 1) a b := by
  constructor <;> (show ¬ ((_ : Nat) = _)) <;> omega
theorem boot_zip : bootBuiltins "zip" = some (.type "zip") := by decide +kernel
theorem pi_zip {X : Cx} {elts : List Expr} {c : Nat} {tpos : Pos} {a b : Expr} {ta : TA} {p pos : Pos} (hg : Gl X "zip") (hm : X.mg "zip" = none) (ha : PA X [a, b] ta) (hs : starEach [a, b] X.env = [(false, eval a X.env), (false, eval b X.env)] := by rfl) (hs2 : starEach [b] X.env = [(false, eval b X.env)] := by rfl) :
    PI X (.Tuple elts c tpos) (.Call (.Name "zip" p) [a, b] [] pos) (iZip X.K ta) := by
  intro pins s σ H R I h
  refine Call_ (ld_blt I hg hm boot_zip (PyProof.Rows.callWith_type1 (thn (ha pos pins s σ H _ I h) fun us s1 ⟨vs, H1, I1, r1, q1⟩ => ?_) (by rw [hs, hs2]) (by rw [hs2]; rfl)))
  obtain ⟨a, b, e, ⟨xs, hq1⟩, ⟨ys, hq2⟩, q⟩ := q1
  subst e
  cases r1 with
  | cons r rr =>
    cases rr with
    | cons r' rr =>
      cases rr
      cases r
      cases r'
      obtain ⟨its1, rv1, p1, _⟩ := I1.list hq1
      obtain ⟨its2, rv2, p2, _⟩ := I1.list hq2
      have la : a < s1.heap.objs.size := by obtain ⟨o, n, e, _⟩ := p1; exact Heap.lt_size e
      have lb : b < s1.heap.objs.size := by obtain ⟨o, n, e, _⟩ := p2; exact Heap.lt_size e
      refine call_zip_2 p1.isList p2.isList fun h' a1 a2 a3 a4 a5 a6 hk => wpAny_pyIter_zip a1 ?_
      have D : ZipApart (s1.heap.objs.size + 4) (s1.heap.objs.size + 2) (s1.heap.objs.size + 3) s1.heap.objs.size (s1.heap.objs.size + 1) a b := zip_apart la lb
      refine ⟨_, _, _, _, H1, rfl, I1.kept (t' := s1.toks) hk, turn_zip D, ⟨a1, a2, ⟨_, _, a3⟩, a4, a5⟩, fun x hx => ?_, q⟩
      have hx' : s1.heap.objs.size ≤ x := by
        simp only [List.mem_cons, List.not_mem_nil, or_false] at hx
        rcases hx with rfl | rfl | rfl | rfl | rfl <;> (show (_ : Nat) ≤ (_ : Nat)) <;> omega
      exact I1.fpOk hx' (I1.hok.fresh hx')
end L2
set_option Elab.async false
set_option linter.all false
set_option maxRecDepth 100000
set_option maxHeartbeats 1000000
namespace My
open PySem L2 MA
noncomputable abbrev penV (c : Addr) (a l : Int) : List V := [.ref c, .int a, .int l]
structure SameY (p : Addr) (H H' : Hp) : Prop where
  all : ∀ b o, H b = some o → b ≠ p → H' b = some o
  pen : ∀ c a l, H p = some (.lst (penV c a l)) → ∃ a' l', H' p = some (.lst (penV c a' l'))
theorem SameY.refl (p : Addr) (H : Hp) : SameY p H H := ⟨fun _ _ h _ => h, fun _ a l h => ⟨a, l, h⟩⟩
theorem SameY.trans {p : Addr} {H H1 H2 : Hp} (a : SameY p H H1) (b : SameY p H1 H2) : SameY p H H2 :=
  ⟨fun c o h n => b.all c o (a.all c o h n) n, fun c x l h => let ⟨x', l', h'⟩ := a.pen c x l h; b.pen c x' l' h'⟩
theorem Same.y {p : Addr} {H H' : Hp} (a : Same H H') : SameY p H H' := ⟨fun b o h _ => a b o h, fun _ x l h => ⟨x, l, a _ _ h⟩⟩
theorem SameY.upd {p c : Addr} {H : Hp} {a l a' l' : Int} (h : H p = some (.lst (penV c a l))) : SameY p H (upd H p (.lst (penV c a' l'))) :=
  ⟨fun b o e hb => by rw [upd_ne hb]; exact e, fun c' x y e => by rw [h] at e; cases e; exact ⟨a', l', upd_same⟩⟩
end My
set_option Elab.async false
set_option linter.all false
set_option maxRecDepth 100000
set_option maxHeartbeats 1000000
namespace L2
open PySem PySem.Spec PyProof.Rows
noncomputable def gTup0 (n : Nat) (t : TGs) : TG := fun v σ H Q => ∃ a xs, v = .ref a ∧ H a = some (.tup xs) ∧ xs.length = n ∧ t xs σ H Q
theorem pg_tup0 {X : Cx} {pos : Pos} {es : List Expr} {k : Nat} {t : TGs} {n : Nat} (hc : X.calm = true) (h : PGs X es t)
    (hn : (assignEach es X.env).length = n := by rfl) (hst : (assignEach es X.env).findIdx? (·.1) = none := by rfl) : PG X (.Tuple es k pos) (gTup0 n t) := by
  intro pins s σ H v u Q I r hw
  obtain ⟨a, xs, e1, hq, hl, hw⟩ := hw
  exact pg_tup hc h hn hst pins s σ H v u Q I r ⟨a, xs, e1, SqT.of hq, hl, hw⟩
end L2
namespace My
open PySem L2 MA
end My
set_option Elab.async false
set_option linter.all false
set_option maxRecDepth 100000
set_option maxHeartbeats 4000000
namespace L2
open PySem PySem.Spec PyProof.Rows
section
variable {prog : Program} {w : World} {A : Around} {E : Value → Shared → Prop} {s : Shared}
theorem nxt_tup_item {it t : Addr} {i : Nat} {its : Array Value} {x : Value} {Q : Value → Shared → Prop} (hi : s.heap.IsTupleIter it t i) (hs : s.heap.IsTuple t its) (hx : its[i]? = some x)
    (k : ∀ h', h'.IsTupleIter it t (i + 1) → Heap.SameBut it s.heap h' → Q x { s with heap := h' }) : wpAny (model prog w) A (Builtin.SmallTypes.nextOf (.ref it)) Q E s := by
  obtain ⟨ob, e1, e2, e3⟩ := id hi
  obtain ⟨oq, f1, f2, n, f3⟩ := hs
  unfold Builtin.SmallTypes.nextOf
  refine wpAny_bind (wpAny_callSpecial?_slot (name := Str.ofString "__next__") hi.typeIs F.slot_tuple_iterator_next (wpAny_call_entry F.slot_tuple_iterator_next hi.typeIs F.entry_tuple_iterator_next ?_ (F.args_tuple_iterator_next_1 _)))
  refine wpAny_bind (m := field (.ref it) 0) (wpAny_field e1 e3 (x := .ref t) rfl ?_)
  show wpAny (model prog w) _ (if (Value.ref t == Value.none) = true then _ else _) _ _ s
  rw [if_neg (by intro z; cases z)]
  refine wpAny_bind (m := field (.ref it) 1) (wpAny_field e1 e3 (x := .int i 0) rfl ?_)
  refine wpAny_bind (m := seqItems? (.ref t)) (wpAny_seqItems f1 f3 ?_)
  simp only [hx, Int.toNat_natCast]
  refine wpAny_bind (wpAny_setField e1 e3 (by simp) (wpAny_pure ⟨x, rfl, wpAny_pure (k _ ⟨_, Heap.get?_update_self _ e1 (Obj.isFreed_of_fields (Obj.data_mapFields e3 _)), (Obj.cls_mapFields ..).trans e2, ?_⟩ (Heap.SameBut.update ..))⟩))
  rw [Obj.data_mapFields e3]
  simp [rawInt]
theorem nxt_tup_end {it t : Addr} {i : Nat} {its : Array Value} {Q : Value → Shared → Prop} (hh : A.handled = none) (hi : s.heap.IsTupleIter it t i) (hs : s.heap.IsTuple t its) (hx : its[i]? = none)
    (k : ∀ h' e, Heap.ExtBut it s.heap h' → (∃ o, h'.get? e = some o ∧ o.cls = .type "StopIteration") → E (.ref e) { s with heap := h' }) : wpAny (model prog w) A (Builtin.SmallTypes.nextOf (.ref it)) Q E s := by
  obtain ⟨ob, e1, e2, e3⟩ := id hi
  obtain ⟨oq, f1, f2, n, f3⟩ := hs
  unfold Builtin.SmallTypes.nextOf
  refine wpAny_bind (wpAny_callSpecial?_slot (name := Str.ofString "__next__") hi.typeIs F.slot_tuple_iterator_next (wpAny_call_entry F.slot_tuple_iterator_next hi.typeIs F.entry_tuple_iterator_next ?_ (F.args_tuple_iterator_next_1 _)))
  refine wpAny_bind (m := field (.ref it) 0) (wpAny_field e1 e3 (x := .ref t) rfl ?_)
  show wpAny (model prog w) _ (if (Value.ref t == Value.none) = true then _ else _) _ _ s
  rw [if_neg (by intro z; cases z)]
  refine wpAny_bind (m := field (.ref it) 1) (wpAny_field e1 e3 (x := .int i 0) rfl ?_)
  refine wpAny_bind (m := seqItems? (.ref t)) (wpAny_seqItems f1 f3 ?_)
  simp only [hx, Int.toNat_natCast]
  refine wpAny_bind (wpAny_rule (wpAny_bind (wpAny_setField e1 e3 (by simp) (wpAny_bind (m := newExc (.type "StopIteration") []) ?_))))
  simp only [newTuple, newExc]
  refine wpAny_bind (wpAny_newObj_type (wpAny_bind (m := firstArgMember _ _) (wpAny_of_eq (a := Value.none) (by first | rfl | (simp only [firstArgMember]; rfl)) (wpAny_newObj_type ?_ (by size_fits)))) (by size_fits))
  simp only [raiseNew]
  refine wpAny_bind (wpAny_handled ?_)
  rw [show A.in1.handled = none from hh]
  refine wpAny_bind (wpAny_pure (wpAny_throw (k _ _ (((Heap.SameBut.update ..).extBut.push _).push _) ⟨_, Heap.get?_push_size _ rfl, rfl⟩)))
end
noncomputable def IsB (h : Heap) : Bool → Addr → Array Value → Prop
  | true => h.IsList
  | false => h.IsTuple
noncomputable def IterB (h : Heap) : Bool → Addr → Addr → Nat → Prop
  | true => h.IsListIter
  | false => h.IsTupleIter
noncomputable def SqB (K : PySem.W.Frag) (H : Hp) : Bool → Addr → List V → Prop
  | true => SqL K H
  | false => SqT K H
theorem IsB.at {h h' : Heap} {b : Bool} {a : Addr} {its : Array Value} (x : IsB h b a its) (k : ∀ o, h.get? a = some o → h'.get? a = some o) : IsB h' b a its := by
  cases b <;> (obtain ⟨o, e, r⟩ := x; exact ⟨o, k o e, r⟩)
theorem IterB.at {h h' : Heap} {b : Bool} {a l : Addr} {i : Nat} (x : IterB h b a l i) (k : ∀ o, h.get? a = some o → h'.get? a = some o) : IterB h' b a l i := by
  cases b <;> (obtain ⟨o, e, r⟩ := x; exact ⟨o, k o e, r⟩)
theorem IterB.ob {h : Heap} {b : Bool} {a l : Addr} {i : Nat} (x : IterB h b a l i) : ∃ o, h.get? a = some o ∧ ∀ v, o.data ≠ .cell v := by
  cases b <;> (obtain ⟨o, e, _, d⟩ := x; exact ⟨o, e, fun v z => by rw [d] at z; cases z⟩)
theorem IsB.lt {h : Heap} {b : Bool} {a : Addr} {its : Array Value} (x : IsB h b a its) : a < h.objs.size := by
  cases b <;> (obtain ⟨o, e, _⟩ := x; exact Heap.lt_size e)
theorem drawsB {prog : Program} {w : World} {A : Around} (hh : A.handled = none) (b : Bool) (it l : Addr) (hne : l ≠ it) (its : Array Value) :
    Draws prog w A it [it, l] its.size (fun i v => its[i]? = some v) (fun i h => IterB h b it l i ∧ IsB h b l its) := by
  cases b with
  | true => exact Draws.list hh it l hne its
  | false =>
    exact {
      live := fun _ _ st => let ⟨o, ho, _⟩ := st.1; ⟨o, ho⟩
      frame := fun _ _ _ st hk => ⟨st.1.at fun o e => hk it (by simp) o e, st.2.at fun o e => hk l (by simp) o e⟩
      item := fun i s Q E hi st hQ => nxt_tup_item st.1 st.2 (x := its[i]) (by simp [hi]) fun h' a sb => hQ _ h' s.toks (by simp [hi]) ⟨a, st.2.at fun o e => (sb.2 l hne).trans e⟩ sb
      done := fun s Q E st hE => nxt_tup_end hh st.1 st.2 (by simp) hE }
section
variable {X : Cx} {pins : List (Addr × Obj)} {σ : St} {H : Hp} {s : Shared} {a : Addr} {xs ys : List V} {b : Bool}
theorem Inv.seqB (I : Inv X pins σ H s) (h : SqB X.K H b a xs) : ∃ its : List Value, Vals xs its ∧ IsB s.heap b a its.toArray ∧ xs.length ≤ sizeLine := by
  cases b with
  | true => obtain ⟨its, r, p, z⟩ := I.list h; exact ⟨its, r, p.isList, z⟩
  | false => obtain ⟨its, r, p, z⟩ := I.tuple h; exact ⟨its, r, p, z⟩
theorem Inv.seqB_inj (I : Inv X pins σ H s) (h : SqB X.K H b a xs) (h' : SqB X.K H b a ys) : xs = ys := by
  cases b with
  | true => exact I.list_inj h h'
  | false => exact I.tuple_inj h h'
end
end L2
set_option Elab.async false
set_option linter.all false
set_option maxRecDepth 100000
set_option maxHeartbeats 4000000
namespace L2
open PySem PySem.Spec PyProof.Rows
section
variable {prog : Program} {w : World} {A : Around} {E : Value → Shared → Prop} {s : Shared}
theorem nxtB_item {b : Bool} {it t : Addr} {i : Nat} {its : Array Value} {x : Value} {Q : Value → Shared → Prop} (hi : IterB s.heap b it t i) (hs : IsB s.heap b t its) (hx : its[i]? = some x)
    (k : ∀ h', IterB h' b it t (i + 1) → Heap.SameBut it s.heap h' → Q x { s with heap := h' }) : wpAny (model prog w) A (Builtin.SmallTypes.nextOf (.ref it)) Q E s := by
  cases b with
  | true => exact wpAny_nextOf_list_item hi hs hx k
  | false => exact nxt_tup_item hi hs hx k
theorem nxtB_end {b : Bool} {it t : Addr} {i : Nat} {its : Array Value} {Q : Value → Shared → Prop} (hh : A.handled = none) (hi : IterB s.heap b it t i) (hs : IsB s.heap b t its) (hx : its[i]? = none)
    (k : ∀ h' e, Heap.ExtBut it s.heap h' → (∃ o, h'.get? e = some o ∧ o.cls = .type "StopIteration") → E (.ref e) { s with heap := h' }) : wpAny (model prog w) A (Builtin.SmallTypes.nextOf (.ref it)) Q E s := by
  cases b with
  | true => exact wpAny_nextOf_list_end hh hi hs hx k
  | false => exact nxt_tup_end hh hi hs hx k
theorem zipB_item {z TI TO i1 i2 l1 l2 : Addr} {b1 b2 : Bool} {k : Nat} {xs ys : Array Value} {x y u v : Value} {Q : Value → Shared → Prop} (D : ZipApart z TI TO i1 i2 l1 l2)
    (hz : IsZip s.heap z TI TO .none) (p1 : IsPair s.heap TI (.ref i1) (.ref i2)) (p2 : IsPair s.heap TO u v) (j1 : IterB s.heap b1 i1 l1 k) (j2 : IterB s.heap b2 i2 l2 k) (q1 : IsB s.heap b1 l1 xs) (q2 : IsB s.heap b2 l2 ys) (hx : xs[k]? = some x) (hy : ys[k]? = some y)
    (K : ∀ h', IsZip h' z TI TO (rawInt s.heap.objs.size) → IsPair h' TO x y → IterB h' b1 i1 l1 (k + 1) → IterB h' b2 i2 l2 (k + 1) → IsPair h' s.heap.objs.size x y →
      (∀ c o, c ≠ z → c ≠ TO → c ≠ i1 → c ≠ i2 → s.heap.get? c = some o → h'.get? c = some o) → Q (.ref s.heap.objs.size) { s with heap := h' }) :
    wpAny (model prog w) A (Builtin.«zip.__next__» ⟨[.ref z], []⟩) (fun fin s' => ∃ v, fin = .done (.ret v) ∧ Q v s') E s := by
  refine wpAny_bind (m := field (.ref z) 2) (wpAny_field hz rfl (x := .bool false) rfl (wpAny_bind (m := field (.ref z) 3) (wpAny_field hz rfl (x := .ref TI) rfl (wpAny_bind (wpAny_seqItems p1 rfl (wpAny_bind (m := Builtin.SmallTypes.ownedTupleIsFree (.ref z)) ?_))))))
  unfold Builtin.SmallTypes.ownedTupleIsFree
  refine wpAny_bind (wpAny_field hz rfl (x := .none) rfl (wpAny_pure ?_))
  simp only [if_true]
  refine wpAny_bind (wpAny_rule (wpAny_bind (wpAny_field hz rfl (x := .ref TO) rfl (wpAny_bind (wpAny_setField_rec hz (by simp) fun g1 z1 s1 => ?_)))))
  replace z1 : IsZip g1 z TI TO .ellipsis := z1
  refine wpAny_bind ?_
  simp only [List.zipIdx_cons, List.forIn_cons, List.zipIdx_nil, List.forIn_nil]
  refine wpAny_bind (wpAny_bind (wpAny_onRaise (wpAny_bind (m := Builtin.SmallTypes.nextOf (.ref i1)) (nxtB_item (j1.at fun o e => (s1.2 _ D.i1z).trans e) (q1.at fun o e => (s1.2 _ D.l1z).trans e) hx fun g2 j1' s2 => wpAny_pure ?_))))
  have t2 : IsPair g2 TO u v := s2.extBut _ _ D.TOi1 (s1.extBut _ _ D.TOz p2)
  refine wpAny_bind (wpAny_seqItems t2 rfl (wpAny_bind (wpAny_updateSeq_pair t2 fun g3 t3 s3 => wpAny_bind (wpAny_letGo (wpAny_pure ?_)))))
  replace t3 : IsPair g3 TO x v := t3
  refine wpAny_bind (wpAny_bind (wpAny_onRaise (wpAny_bind (m := Builtin.SmallTypes.nextOf (.ref i2)) (nxtB_item (((j2.at fun o e => (s1.2 _ D.i2z).trans e).at fun o e => (s2.2 _ D.i12.symm).trans e).at fun o e => (s3.2 _ D.TOi2.symm).trans e)
    (((q2.at fun o e => (s1.2 _ D.l2z).trans e).at fun o e => (s2.2 _ D.l2i1).trans e).at fun o e => (s3.2 _ D.l2TO).trans e) hy fun g4 j2' s4 => wpAny_pure ?_))))
  have t4 : IsPair g4 TO x v := s4.extBut _ _ D.TOi2 t3
  refine wpAny_bind (wpAny_seqItems t4 rfl (wpAny_bind (wpAny_updateSeq_pair t4 fun g5 t5 s5 => wpAny_bind (wpAny_letGo (wpAny_pure (wpAny_pure ?_))))))
  replace t5 : IsPair g5 TO x y := t5
  refine wpAny_bind (wpAny_seqItems t5 rfl (wpAny_bind (wpAny_newTuple (wpAny_bind (m := Builtin.SmallTypes.ownedTupleHandOut (.ref z) (.ref g5.objs.size)) ?_))))
  have sz : g5.objs.size = s.heap.objs.size := by rw [s5.1, s4.1, s3.1, s2.1, s1.1]
  have z5 : IsZip g5 z TI TO .ellipsis := s5.extBut _ _ D.TOz.symm (s4.extBut _ _ D.i2z.symm (s3.extBut _ _ D.TOz.symm (s2.extBut _ _ D.i1z.symm z1)))
  have k5 : ∀ c o, c ≠ z → c ≠ TO → c ≠ i1 → c ≠ i2 → s.heap.get? c = some o → g5.get? c = some o := fun c o c1 c2 c3 c4 e => s5.extBut _ _ c2 (s4.extBut _ _ c4 (s3.extBut _ _ c2 (s2.extBut _ _ c3 (s1.extBut _ _ c1 e))))
  have zl : z < g5.objs.size := Heap.lt_size z5
  unfold Builtin.SmallTypes.ownedTupleHandOut
  have z6 : IsZip (g5.push { cls := .type "tuple", data := .seq #[x, y] }) z TI TO .ellipsis := Heap.get?_push_of_some _ z5
  refine wpAny_bind (wpAny_setField_rec z6 (by simp) fun g7 z7 s7 => ?_)
  replace z7 : IsZip g7 z TI TO (rawInt g5.objs.size) := z7
  refine wpAny_setField_rec z7 (by simp) fun g8 z8 s8 => ?_
  replace z8 : IsZip g8 z TI TO (rawInt g5.objs.size) := z8
  have up : ∀ c o, c ≠ z → g5.get? c = some o → g8.get? c = some o := fun c o c1 e => s8.extBut _ _ c1 (s7.extBut _ _ c1 (Heap.get?_push_of_some _ e))
  have T8 : IsPair g8 g5.objs.size x y := s8.extBut _ _ (Nat.ne_of_gt zl) (s7.extBut _ _ (Nat.ne_of_gt zl) (Heap.get?_push_size _ rfl))
  rw [sz] at z8 T8
  refine wpAny_pure ⟨_, rfl, ?_⟩
  show Q (.ref g5.objs.size) _
  rw [sz]
  refine K g8 z8 (up _ _ D.TOz t5) ?_ ?_ T8 fun c o c1 c2 c3 c4 e => up c o c1 (k5 c o c1 c2 c3 c4 e)
  · exact (((j1'.at fun o e => (s3.2 _ D.TOi1.symm).trans e).at fun o e => (s4.2 _ D.i12).trans e).at fun o e => (s5.2 _ D.TOi1.symm).trans e).at fun o e => up _ o D.i1z e
  · exact (j2'.at fun o e => (s5.2 _ D.TOi2.symm).trans e).at fun o e => up _ o D.i2z e
theorem zipB_end {z TI TO i1 i2 l1 l2 : Addr} {b1 b2 : Bool} {k : Nat} {xs ys : Array Value} {u v : Value} {Q : Fin → Shared → Prop} (hh : A.handled = none) (D : ZipApart z TI TO i1 i2 l1 l2)
    (hz : IsZip s.heap z TI TO .none) (p1 : IsPair s.heap TI (.ref i1) (.ref i2)) (p2 : IsPair s.heap TO u v) (j1 : IterB s.heap b1 i1 l1 k) (j2 : IterB s.heap b2 i2 l2 k) (q1 : IsB s.heap b1 l1 xs) (q2 : IsB s.heap b2 l2 ys) (hend : xs[k]? = none ∨ ys[k]? = none)
    (K : ∀ h' e, (∀ c o, c ≠ z → c ≠ TO → c ≠ i1 → c ≠ i2 → s.heap.get? c = some o → h'.get? c = some o) → (∃ o, h'.get? e = some o ∧ o.cls = .type "StopIteration") → E (.ref e) { s with heap := h' }) :
    wpAny (model prog w) A (Builtin.«zip.__next__» ⟨[.ref z], []⟩) Q E s := by
  refine wpAny_bind (m := field (.ref z) 2) (wpAny_field hz rfl (x := .bool false) rfl (wpAny_bind (m := field (.ref z) 3) (wpAny_field hz rfl (x := .ref TI) rfl (wpAny_bind (wpAny_seqItems p1 rfl (wpAny_bind (m := Builtin.SmallTypes.ownedTupleIsFree (.ref z)) ?_))))))
  unfold Builtin.SmallTypes.ownedTupleIsFree
  refine wpAny_bind (wpAny_field hz rfl (x := .none) rfl (wpAny_pure ?_))
  simp only [if_true]
  refine wpAny_bind (wpAny_rule (wpAny_bind (wpAny_field hz rfl (x := .ref TO) rfl (wpAny_bind (wpAny_setField_rec hz (by simp) fun g1 z1 s1 => ?_)))))
  replace z1 : IsZip g1 z TI TO .ellipsis := z1
  refine wpAny_bind ?_
  simp only [List.zipIdx_cons, List.forIn_cons, List.zipIdx_nil, List.forIn_nil]
  refine wpAny_bind (wpAny_bind (wpAny_onRaise (wpAny_bind (m := Builtin.SmallTypes.nextOf (.ref i1)) ?_)))
  cases hx : xs[k]? with
  | none =>
    refine nxtB_end hh (j1.at fun o e => (s1.2 _ D.i1z).trans e) (q1.at fun o e => (s1.2 _ D.l1z).trans e) hx fun g2 e s2 ⟨oe, hoe, hce⟩ => ?_
    have z2 : IsZip g2 z TI TO .ellipsis := s2 _ _ D.i1z.symm z1
    have hez : e ≠ z := fun q => by subst q; rw [z2] at hoe; cases hoe; simp at hce
    exact wpAny_setField_rec z2 (by simp) fun g3 _ s3 => K g3 e (fun c o c1 _ c3 _ q => s3.extBut _ _ c1 (s2 _ _ c3 (s1.extBut _ _ c1 q))) ⟨oe, s3.extBut _ _ hez hoe, hce⟩
  | some x =>
    have hy : ys[k]? = none := by
      rcases hend with h | h
      · rw [hx] at h; cases h
      · exact h
    refine nxtB_item (j1.at fun o e => (s1.2 _ D.i1z).trans e) (q1.at fun o e => (s1.2 _ D.l1z).trans e) hx fun g2 j1' s2 => wpAny_pure ?_
    have t2 : IsPair g2 TO u v := s2.extBut _ _ D.TOi1 (s1.extBut _ _ D.TOz p2)
    refine wpAny_bind (wpAny_seqItems t2 rfl (wpAny_bind (wpAny_updateSeq_pair t2 fun g3 t3 s3 => wpAny_bind (wpAny_letGo (wpAny_pure ?_)))))
    refine wpAny_bind (wpAny_bind (wpAny_onRaise (wpAny_bind (m := Builtin.SmallTypes.nextOf (.ref i2)) (nxtB_end hh (((j2.at fun o e => (s1.2 _ D.i2z).trans e).at fun o e => (s2.2 _ D.i12.symm).trans e).at fun o e => (s3.2 _ D.TOi2.symm).trans e)
      (((q2.at fun o e => (s1.2 _ D.l2z).trans e).at fun o e => (s2.2 _ D.l2i1).trans e).at fun o e => (s3.2 _ D.l2TO).trans e) hy fun g4 e s4 ⟨oe, hoe, hce⟩ => ?_))))
    have z4 : IsZip g4 z TI TO .ellipsis := s4 _ _ D.i2z.symm (s3.extBut _ _ D.TOz.symm (s2.extBut _ _ D.i1z.symm z1))
    have hez : e ≠ z := fun q => by subst q; rw [z4] at hoe; cases hoe; simp at hce
    exact wpAny_setField_rec z4 (by simp) fun g5 _ s5 => K g5 e (fun c o c1 c2 c3 c4 q => s5.extBut _ _ c1 (s4 _ _ c4 (s3.extBut _ _ c2 (s2.extBut _ _ c3 (s1.extBut _ _ c1 q))))) ⟨oe, s5.extBut _ _ hez hoe, hce⟩
noncomputable def itc : Bool → String
  | true => "list_iterator"
  | false => "tuple_iterator"
noncomputable abbrev zG1 (h : Heap) (b1 : Bool) (l1 : Addr) : Heap := h.push { cls := .type (itc b1), data := .fields #[.ref l1, .int 0 0] }
noncomputable abbrev zG2 (h : Heap) (b1 b2 : Bool) (l1 l2 : Addr) : Heap := (zG1 h b1 l1).push { cls := .type (itc b2), data := .fields #[.ref l2, .int 0 0] }
noncomputable abbrev zG3 (h : Heap) (b1 b2 : Bool) (l1 l2 : Addr) : Heap := (zG2 h b1 b2 l1 l2).push { cls := .type "tuple", data := .seq #[.ref h.objs.size, .ref (zG1 h b1 l1).objs.size] }
noncomputable abbrev zG4 (h : Heap) (b1 b2 : Bool) (l1 l2 : Addr) : Heap := (zG3 h b1 b2 l1 l2).push { cls := .type "tuple", data := .seq #[.none, .none] }
noncomputable abbrev zG5 (h : Heap) (b1 b2 : Bool) (l1 l2 : Addr) : Heap := (zG4 h b1 b2 l1 l2).push { cls := .type "zip", data := .fields #[.none, .bool false, .bool false, .ref (zG2 h b1 b2 l1 l2).objs.size, .ref (zG3 h b1 b2 l1 l2).objs.size] }
theorem pyIterB {b : Bool} {l : Addr} {its : Array Value} {Q : Value → Shared → Prop} (hl : IsB s.heap b l its)
    (hQ : Q (.ref s.heap.objs.size) { s with heap := s.heap.push { cls := .type (itc b), data := .fields #[.ref l, .int 0 0] } }) : wpAny (model prog w) A (pyIter (.ref l)) Q E s := by
  cases b with
  | true => exact wpAny_pyIter_list hl hQ
  | false => exact wpAny_pyIter_tuple hl hQ
theorem zipB_new (b1 b2 : Bool) (l1 l2 : Addr) (xs ys : Array Value) :
    Meets (Builtin.«zip.__new__» ⟨[.type "zip", .ref l1, .ref l2], []⟩) (fun _ R s => IsB s.heap b1 l1 xs ∧ IsB s.heap b2 l2 ys ∧ R (.ok (.ret (.ref (zG4 s.heap b1 b2 l1 l2).objs.size))) { s with heap := zG5 s.heap b1 b2 l1 l2 }) :=
  .of_wp fun prog w A R s h => by
    obtain ⟨hp, g, d, tk, os⟩ := s
    obtain ⟨q1, q2, h⟩ := h
    have hsub := sub_zip
    have a1 : IsB (Shared.heap ⟨hp, g, d, tk, os⟩) b1 l1 xs := q1
    have a2 : IsB (Shared.heap ⟨hp.push { cls := .type (itc b1), data := .fields #[.ref l1, .int 0 0] }, g, d, tk, os⟩) b2 l2 ys := q2.at fun o e => Heap.get?_push_of_some _ e
    wp_walk using pyIterB a1, pyIterB a2
    exact ⟨_, rfl, h⟩
theorem call_zipB {b1 b2 : Bool} {l1 l2 : Addr} {xs ys : Array Value} {Q : Value → Shared → Prop} (q1 : IsB s.heap b1 l1 xs) (q2 : IsB s.heap b2 l2 ys)
    (h : ∀ h', IsZip h' (s.heap.objs.size + 4) (s.heap.objs.size + 2) (s.heap.objs.size + 3) .none → IsPair h' (s.heap.objs.size + 2) (.ref s.heap.objs.size) (.ref (s.heap.objs.size + 1)) → IsPair h' (s.heap.objs.size + 3) .none .none →
      IterB h' b1 s.heap.objs.size l1 0 → IterB h' b2 (s.heap.objs.size + 1) l2 0 → (∀ c o, s.heap.get? c = some o → h'.get? c = some o) → Q (.ref (s.heap.objs.size + 4)) { s with heap := h' }) :
    wpAny (model prog w) A (call (.type "zip") [.ref l1, .ref l2]) Q E s := by
  refine callType_new F.called_zip (by decide) (F.typeCall_zip_2 _ _) (F.newCall_zip_2 _ _) (fun obj => F.args_object_init_3 obj _ _) F.entry_zip_new (zipB_new b1 b2 l1 l2 xs ys) ⟨q1, q2, ?_⟩
  have n1 : (zG1 s.heap b1 l1).objs.size = s.heap.objs.size + 1 := Heap.size_push ..
  have n2 : (zG2 s.heap b1 b2 l1 l2).objs.size = s.heap.objs.size + 2 := by rw [Heap.size_push, n1]
  have n3 : (zG3 s.heap b1 b2 l1 l2).objs.size = s.heap.objs.size + 3 := by rw [Heap.size_push, n2]
  have n4 : (zG4 s.heap b1 b2 l1 l2).objs.size = s.heap.objs.size + 4 := by rw [Heap.size_push, n3]
  have g5 : (zG5 s.heap b1 b2 l1 l2).get? (zG4 s.heap b1 b2 l1 l2).objs.size = some _ := Heap.get?_push_size _ rfl
  have g4 : (zG5 s.heap b1 b2 l1 l2).get? (zG3 s.heap b1 b2 l1 l2).objs.size = some _ := Heap.get?_push_of_some _ (Heap.get?_push_size _ rfl)
  have g3 : (zG5 s.heap b1 b2 l1 l2).get? (zG2 s.heap b1 b2 l1 l2).objs.size = some _ := Heap.get?_push_of_some _ (Heap.get?_push_of_some _ (Heap.get?_push_size _ rfl))
  have g2 : (zG5 s.heap b1 b2 l1 l2).get? (zG1 s.heap b1 l1).objs.size = some _ := Heap.get?_push_of_some _ (Heap.get?_push_of_some _ (Heap.get?_push_of_some _ (Heap.get?_push_size _ rfl)))
  have g1 : (zG5 s.heap b1 b2 l1 l2).get? s.heap.objs.size = some _ := Heap.get?_push_of_some _ (Heap.get?_push_of_some _ (Heap.get?_push_of_some _ (Heap.get?_push_of_some _ (Heap.get?_push_size _ rfl))))
  show _ ∧ _
  rw [n2, n3, n4] at g5
  rw [n1, n2] at g3
  rw [n3] at g4
  rw [n1] at g2
  rw [n4]
  refine ⟨⟨_, g5, rfl⟩, h _ g5 g3 g4 ?_ ?_ fun c o q => Heap.get?_push_of_some _ (Heap.get?_push_of_some _ (Heap.get?_push_of_some _ (Heap.get?_push_of_some _ (Heap.get?_push_of_some _ q))))⟩
  · cases b1 <;> exact ⟨_, g1, rfl, rfl⟩
  · cases b2 <;> exact ⟨_, g2, rfl, rfl⟩
theorem next_zipB {z TI TO i1 i2 l1 l2 : Addr} {b1 b2 : Bool} {k : Nat} {xs ys : Array Value} {x y u v : Value} {Q : Option Value → Shared → Prop} (D : ZipApart z TI TO i1 i2 l1 l2)
    (hz : IsZip s.heap z TI TO .none) (p1 : IsPair s.heap TI (.ref i1) (.ref i2)) (p2 : IsPair s.heap TO u v) (j1 : IterB s.heap b1 i1 l1 k) (j2 : IterB s.heap b2 i2 l2 k) (q1 : IsB s.heap b1 l1 xs) (q2 : IsB s.heap b2 l2 ys) (hx : xs[k]? = some x) (hy : ys[k]? = some y)
    (K : ∀ h', IsZip h' z TI TO (rawInt s.heap.objs.size) → IsPair h' TO x y → IterB h' b1 i1 l1 (k + 1) → IterB h' b2 i2 l2 (k + 1) → IsPair h' s.heap.objs.size x y →
      (∀ c o, c ≠ z → c ≠ TO → c ≠ i1 → c ≠ i2 → s.heap.get? c = some o → h'.get? c = some o) → Q (some (.ref s.heap.objs.size)) { s with heap := h' }) :
    wpAny (model prog w) A (pyNext (.ref z)) Q E s := by
  have T : s.TypeIs (.ref z) "zip" := ⟨_, hz, rfl⟩
  unfold pyNext
  exact wpAny_bind (wpAny_attempt (wpAny_callSpecial?_slot (name := Str.ofString "__next__") T F.slot_zip_next (wpAny_call_entry F.slot_zip_next T F.entry_zip_next
    (zipB_item D hz p1 p2 j1 j2 q1 q2 hx hy fun h' a1 a2 a3 a4 a5 a6 => wpAny_pure (K h' a1 a2 a3 a4 a5 a6)) (F.args_zip_next_1 _))))
theorem end_zipB {z TI TO i1 i2 l1 l2 : Addr} {b1 b2 : Bool} {k : Nat} {xs ys : Array Value} {u v : Value} {Q : Option Value → Shared → Prop} (hh : A.handled = none) (D : ZipApart z TI TO i1 i2 l1 l2)
    (hz : IsZip s.heap z TI TO .none) (p1 : IsPair s.heap TI (.ref i1) (.ref i2)) (p2 : IsPair s.heap TO u v) (j1 : IterB s.heap b1 i1 l1 k) (j2 : IterB s.heap b2 i2 l2 k) (q1 : IsB s.heap b1 l1 xs) (q2 : IsB s.heap b2 l2 ys) (hend : xs[k]? = none ∨ ys[k]? = none)
    (K : ∀ h', (∀ c o, c ≠ z → c ≠ TO → c ≠ i1 → c ≠ i2 → s.heap.get? c = some o → h'.get? c = some o) → Q none { s with heap := h' }) : wpAny (model prog w) A (pyNext (.ref z)) Q E s := by
  have T : s.TypeIs (.ref z) "zip" := ⟨_, hz, rfl⟩
  unfold pyNext
  refine wpAny_bind (wpAny_attempt (wpAny_callSpecial?_slot (name := Str.ofString "__next__") T F.slot_zip_next (wpAny_call_entry F.slot_zip_next T F.entry_zip_next (zipB_end hh D hz p1 p2 j1 j2 q1 q2 hend fun h' e hk ⟨o, ho, hc⟩ => ?_) (F.args_zip_next_1 _))))
  exact wpAny_bind (wpAny_isInstance (T := "StopIteration") (b := true) ⟨o, ho, hc⟩ isSubtype_stop (wpAny_pure (K _ hk)))
end
end L2
set_option Elab.async false
set_option linter.all false
set_option maxRecDepth 100000
set_option maxHeartbeats 4000000
namespace L2
open PySem PySem.Spec PyProof.Rows
noncomputable def ItzB (K : PySem.W.Frag) (b1 b2 : Bool) (a b : Addr) : It :=
  ⟨fun i H => ∃ xs ys x y, SqB K H b1 a xs ∧ SqB K H b2 b ys ∧ xs[i]? = some x ∧ ys[i]? = some y,
   fun i H v H' => ∃ p x y, v = .ref p ∧ H p = none ∧ H' = upd H p (.tup [x, y]) ∧ ∀ xs ys, SqB K H b1 a xs → SqB K H b2 b ys → xs[i]? = some x ∧ ys[i]? = some y,
   fun i H => ∃ xs ys, SqB K H b1 a xs ∧ SqB K H b2 b ys ∧ (xs.length ≤ i ∨ ys.length ≤ i)⟩
theorem turn_zipB {P : Program} {w : World} {K : PySem.W.Frag} {elts : List Expr} {c : Nat} {pos : Pos} {b1 b2 : Bool} {z TI TO i1 i2 a b : Addr} (D : ZipApart z TI TO i1 i2 a b) :
    Turn P w K (.Tuple elts c pos) (ItzB K b1 b2 a b) [z, TI, TO, i1, i2] z (fun i h => IsZip h z TI TO .none ∧ IsPair h TI (.ref i1) (.ref i2) ∧ (∃ u v, IsPair h TO u v) ∧ IterB h b1 i1 a i ∧ IterB h b2 i2 b i) where
  mem := by simp
  obj := fun i h st x hx => by
    obtain ⟨hz, hTI, ⟨u, v, hTO⟩, h1, h2⟩ := st
    simp only [List.mem_cons, List.not_mem_nil, or_false] at hx
    rcases hx with rfl | rfl | rfl | rfl | rfl
    · exact ⟨_, hz, fun _ q => by cases q⟩
    · exact ⟨_, hTI, fun _ q => by cases q⟩
    · exact ⟨_, hTO, fun _ q => by cases q⟩
    · exact h1.ob
    · exact h2.ob
  keep := fun i h h' st k => by
    obtain ⟨hz, hTI, ⟨u, v, hTO⟩, h1, h2⟩ := st
    exact ⟨k z (by simp) _ hz, k TI (by simp) _ hTI, ⟨u, v, k TO (by simp) _ hTO⟩, h1.at fun o e => k i1 (by simp) o e, h2.at fun o e => k i2 (by simp) o e⟩
  item := by
    intro X hP hw hK hc i pins s σ H E I hf st hg
    subst hP hw hK
    obtain ⟨xs, ys, x, y, hq1, hq2, hx, hy⟩ := hg
    obtain ⟨its1, rv1, p1, _⟩ := I.seqB hq1
    obtain ⟨its2, rv2, p2, _⟩ := I.seqB hq2
    obtain ⟨u, hu, ru⟩ := rv1.get hx
    obtain ⟨v, hv, rv⟩ := rv2.get hy
    obtain ⟨hz, hTI, ⟨u0, v0, hTO⟩, h1, h2⟩ := st
    refine next_zipB D hz hTI hTO h1 h2 p1 p2 (x := u) (y := v) (by simpa using hu) (by simpa using hv) fun h' a1 a2 a3 a4 a5 hk => ⟨_, rfl, ?_⟩
    have lt : ∀ {c o}, s.heap.get? c = some o → s.heap.objs.size ≠ c := fun e => Nat.ne_of_gt (Heap.lt_size e)
    refine wpAny_letOwnedTupleGo_zip (s := { s with heap := h' }) a1 fun h'' c1 sb => ?_
    have hn : H s.heap.objs.size = none := I.hok.fresh (Nat.le_refl _)
    have kk : ∀ c o, c ∉ [z, TI, TO, i1, i2] → s.heap.get? c = some o → h''.get? c = some o := fun c o hc' e => by
      simp only [List.mem_cons, List.not_mem_nil, or_false, not_or] at hc'
      obtain ⟨n1, n2, n3, n4, n5⟩ := hc'
      exact sb.extBut _ _ n1 (hk c o n1 n3 n4 n5 e)
    have T1 : IsPair h'' s.heap.objs.size u v := sb.extBut _ _ (lt hz) a5
    refine ⟨.ref s.heap.objs.size, upd H s.heap.objs.size (.tup [x, y]), I.turnedNew (t' := s.toks) hf kk (Nat.le_refl _) ⟨by show 2 ≤ _; decide, [u, v], .cons ru (.cons rv .nil), _, T1, rfl, _, rfl, rfl⟩, rfl, ⟨_, x, y, rfl, hn, rfl, fun xs' ys' q1 q2 => ?_⟩,
      ⟨c1, ?_, ⟨_, _, sb.extBut _ _ D.TOz a2⟩, a3.at fun o e => sb.extBut _ _ D.i1z e, a4.at fun o e => sb.extBut _ _ D.i2z e⟩, fun b hb => ?_⟩
    · rw [I.seqB_inj q1 hq1, I.seqB_inj q2 hq2]; exact ⟨hx, hy⟩
    · exact sb.extBut _ _ D.TIz (hk _ _ D.TIz D.TITO D.TIi1 D.TIi2 hTI)
    · rw [upd_ne]
      · exact (hf b hb).1
      · simp only [List.mem_cons, List.not_mem_nil, or_false] at hb
        obtain ⟨o1, e1, _⟩ := h1.ob
        obtain ⟨o2, e2, _⟩ := h2.ob
        rcases hb with rfl | rfl | rfl | rfl | rfl
        · exact (lt hz).symm
        · exact (lt hTI).symm
        · exact (lt hTO).symm
        · exact (lt e1).symm
        · exact (lt e2).symm
  done := by
    intro X hP hw hK hc i pins s σ H E I hf st hg
    subst hP hw hK
    obtain ⟨xs, ys, hq1, hq2, hx⟩ := hg
    obtain ⟨its1, rv1, p1, _⟩ := I.seqB hq1
    obtain ⟨its2, rv2, p2, _⟩ := I.seqB hq2
    have l1 := rv1.length
    have l2 := rv2.length
    obtain ⟨hz, hTI, ⟨u0, v0, hTO⟩, h1, h2⟩ := st
    refine end_zipB (I.ok.hd hc) D hz hTI hTO h1 h2 p1 p2 (by simp; omega) fun h' hk => ⟨rfl, I.turnedL (t' := s.toks) hf fun c o hc' e => ?_⟩
    simp only [List.mem_cons, List.not_mem_nil, or_false, not_or] at hc'
    obtain ⟨n1, n2, n3, n4, n5⟩ := hc'
    exact hk c o n1 n3 n4 n5 e
  self := fun _ _ _ _ _ st h => wpAny_pyIter_zip st.1 h
noncomputable def iZipB (K : PySem.W.Frag) (b1 b2 : Bool) (ta : TA) : TI := fun σ H R => ta σ H fun vs H1 => ∃ a b, vs = [.ref a, .ref b] ∧ (∃ xs, SqB K H1 b1 a xs) ∧ (∃ ys, SqB K H1 b2 b ys) ∧ R (ItzB K b1 b2 a b) H1
theorem pi_zipB (b1 b2 : Bool) {X : Cx} {elts : List Expr} {c : Nat} {tpos : Pos} {a b : Expr} {ta : TA} {p pos : Pos} (hg : Gl X "zip") (hm : X.mg "zip" = none) (ha : PA X [a, b] ta) (hs : starEach [a, b] X.env = [(false, eval a X.env), (false, eval b X.env)] := by rfl) (hs2 : starEach [b] X.env = [(false, eval b X.env)] := by rfl) :
    PI X (.Tuple elts c tpos) (.Call (.Name "zip" p) [a, b] [] pos) (iZipB X.K b1 b2 ta) := by
  intro pins s σ H R I h
  refine Call_ (ld_blt I hg hm boot_zip (PyProof.Rows.callWith_type1 (thn (ha pos pins s σ H _ I h) fun us s1 ⟨vs, H1, I1, r1, q1⟩ => ?_) (by rw [hs, hs2]) (by rw [hs2]; rfl)))
  obtain ⟨a, b, e, ⟨xs, hq1⟩, ⟨ys, hq2⟩, q⟩ := q1
  subst e
  cases r1 with
  | cons r rr =>
    cases rr with
    | cons r' rr =>
      cases rr
      cases r
      cases r'
      obtain ⟨its1, rv1, p1, _⟩ := I1.seqB hq1
      obtain ⟨its2, rv2, p2, _⟩ := I1.seqB hq2
      have la := p1.lt
      have lb := p2.lt
      refine call_zipB p1 p2 fun h' a1 a2 a3 a4 a5 hk => wpAny_pyIter_zip a1 ?_
      have D : ZipApart (s1.heap.objs.size + 4) (s1.heap.objs.size + 2) (s1.heap.objs.size + 3) s1.heap.objs.size (s1.heap.objs.size + 1) a b := zip_apart la lb
      refine ⟨_, _, _, _, H1, rfl, I1.kept (t' := s1.toks) hk, turn_zipB D, ⟨a1, a2, ⟨_, _, a3⟩, a4, a5⟩, fun x hx => ?_, q⟩
      have hx' : s1.heap.objs.size ≤ x := by
        simp only [List.mem_cons, List.not_mem_nil, or_false] at hx
        rcases hx with rfl | rfl | rfl | rfl | rfl <;> (show (_ : Nat) ≤ (_ : Nat)) <;> omega
      exact I1.fpOk hx' (I1.hok.fresh hx')
end L2
namespace L2
open PySem PySem.Spec PyProof.Rows
section
variable {prog : Program} {w : World} {A : Around} {E : Value → Shared → Prop} {s : Shared}
theorem enumB_new (b : Bool) (l : Addr) (its : Array Value) :
    Meets (Builtin.«enumerate.__new__» ⟨[.type "enumerate", .ref l], []⟩) (fun _ R s => IsB s.heap b l its ∧
      R (.ok (.ret (.ref (zG1 s.heap b l).objs.size))) { s with heap := (zG1 s.heap b l).push { cls := .type "enumerate", data := .fields #[.none, .bool false, .ref s.heap.objs.size, rawInt 0, .none, .none] } }) :=
  .of_wp fun prog w A R s h => by
    obtain ⟨hp, g, d, tk, os⟩ := s
    obtain ⟨q1, h⟩ := h
    have hsub := sub_enumerate
    have a1 : IsB (Shared.heap ⟨hp, g, d, tk, os⟩) b l its := q1
    have hl : ∃ o, hp.get? l = some o := by cases b <;> (obtain ⟨o, e, _⟩ := q1; exact ⟨o, e⟩)
    obtain ⟨o, hl⟩ := hl
    wp_walk using AutoSeq1.wpAny_loadPart' hl
    refine wpAny_stack_any fun st => wpAny_pure ?_
    split
    · rename_i c _ _ _ _ _
      cases (c == Value.type "enumerate")
      · wp_walk using AutoSeq1.wpAny_loadPart' hl, pyIterB a1
        exact ⟨_, rfl, h⟩
      · wp_walk using AutoSeq1.wpAny_loadPart' hl, pyIterB a1
        exact ⟨_, rfl, h⟩
    · wp_walk using AutoSeq1.wpAny_loadPart' hl, pyIterB a1
      exact ⟨_, rfl, h⟩
theorem call_enumB {b : Bool} {l : Addr} {its : Array Value} {Q : Value → Shared → Prop} (q1 : IsB s.heap b l its)
    (h : ∀ h', IsEnum h' (s.heap.objs.size + 1) s.heap.objs.size 0 .none → IterB h' b s.heap.objs.size l 0 → (∀ c o, s.heap.get? c = some o → h'.get? c = some o) → Q (.ref (s.heap.objs.size + 1)) { s with heap := h' }) :
    wpAny (model prog w) A (call (.type "enumerate") [.ref l]) Q E s := by
  refine callType_new F.called_enumerate (by decide) (F.typeCall_enumerate_1 _) (F.newCall_enumerate_1 _) (fun obj => F.args_object_init_2 obj _) F.entry_enumerate_new (enumB_new b l its) ⟨q1, ?_⟩
  have n1 : (zG1 s.heap b l).objs.size = s.heap.objs.size + 1 := Heap.size_push ..
  have g2 : ((zG1 s.heap b l).push { cls := .type "enumerate", data := .fields #[.none, .bool false, .ref s.heap.objs.size, rawInt 0, .none, .none] }).get? (zG1 s.heap b l).objs.size = some _ := Heap.get?_push_size _ rfl
  have g1 : ((zG1 s.heap b l).push { cls := .type "enumerate", data := .fields #[.none, .bool false, .ref s.heap.objs.size, rawInt 0, .none, .none] }).get? s.heap.objs.size = some _ := Heap.get?_push_of_some _ (Heap.get?_push_size _ rfl)
  show _ ∧ _
  rw [n1] at g2
  rw [n1]
  refine ⟨⟨_, g2, rfl⟩, h _ g2 ?_ fun c o q => Heap.get?_push_of_some _ (Heap.get?_push_of_some _ q)⟩
  cases b <;> exact ⟨_, g1, rfl, rfl⟩
theorem end_enumB {b : Bool} {e it l : Addr} {k : Nat} {its : Array Value} {i : Int} {old : Value} {Q : Option Value → Shared → Prop} (hh : A.in1.handled = none) (he : IsEnum s.heap e it i old) (h1 : IterB s.heap b it l k) (h2 : IsB s.heap b l its) (hx : its[k]? = none)
    (K : ∀ h', Heap.ExtBut it s.heap h' → Q none { s with heap := h' }) : wpAny (model prog w) A (pyNext (.ref e)) Q E s := by
  have T : s.TypeIs (.ref e) "enumerate" := ⟨_, he, rfl⟩
  unfold pyNext
  refine wpAny_bind (wpAny_attempt (wpAny_callSpecial?_slot (name := Str.ofString "__next__") T F.slot_enumerate_next (wpAny_call_entry F.slot_enumerate_next T F.entry_enumerate_next ?_ (F.args_enumerate_next_1 _))))
  refine wpAny_bind (m := field (.ref e) 2) (wpAny_field he rfl (x := .ref it) rfl (wpAny_bind (nxtB_end hh h1 h2 hx fun h' x he' ⟨o, ho, hc⟩ => ?_)))
  exact wpAny_bind (wpAny_isInstance (T := "StopIteration") (b := true) ⟨o, ho, hc⟩ isSubtype_stop (wpAny_pure (K _ he')))
end
noncomputable def ItE (K : PySem.W.Frag) (b : Bool) (a : Addr) : It :=
  ⟨fun i H => ∃ xs x, SqB K H b a xs ∧ xs[i]? = some x,
   fun i H v H' => ∃ p x, v = .ref p ∧ H p = none ∧ H' = upd H p (.tup [.int i, x]) ∧ ∀ xs, SqB K H b a xs → xs[i]? = some x,
   fun i H => ∃ xs, SqB K H b a xs ∧ xs.length ≤ i⟩
theorem turn_enumB {P : Program} {w : World} {K : PySem.W.Frag} {elts : List Expr} {c : Nat} {pos : Pos} {b : Bool} {e it a : Addr} (hei : e ≠ it) (hea : e ≠ a) (hia : a ≠ it) :
    Turn P w K (.Tuple elts c pos) (ItE K b a) [e, it] e (fun i h => (∃ old, IsEnum h e it i old) ∧ IterB h b it a i) where
  mem := by simp
  obj := fun i h st x hx => by
    obtain ⟨⟨old, he⟩, h1⟩ := st
    simp only [List.mem_cons, List.not_mem_nil, or_false] at hx
    rcases hx with rfl | rfl
    · exact ⟨_, he, fun _ q => by cases q⟩
    · exact h1.ob
  keep := fun i h h' st k => by
    obtain ⟨⟨old, he⟩, h1⟩ := st
    exact ⟨⟨old, k e (by simp) _ he⟩, h1.at fun o q => k it (by simp) o q⟩
  item := by
    intro X hP hw hK hc i pins s σ H E I hf st hg
    subst hP hw hK
    obtain ⟨xs, x, hq1, hx⟩ := hg
    obtain ⟨its1, rv1, p1, _⟩ := I.seqB hq1
    obtain ⟨u, hu, ru⟩ := rv1.get hx
    obtain ⟨⟨old, he⟩, h1⟩ := st
    have hi : i < its1.toArray.size := by
      have := rv1.length
      have h2 := (List.getElem?_eq_some_iff.mp hx).1
      simp; omega
    have hh : X.A.in1.handled = none := I.ok.hd hc
    refine wpAny_pyNext_enum_itemD (drawsB hh b it a hia its1.toArray) he ⟨h1, p1⟩ hi hei (by simp [hei, hea]) fun y h' tk hy eo st' hT hsz hk => ⟨_, rfl, ?_⟩
    obtain rfl : y = u := by
      have hy' : its1[i]? = some y := by simpa using hy
      rw [hu] at hy'
      exact (Option.some.inj hy').symm
    have lt : ∀ {c o}, s.heap.get? c = some o → s.heap.objs.size ≠ c := fun q => Nat.ne_of_gt (Heap.lt_size q)
    refine wpAny_letOwnedTupleGo_enum (s := { s with heap := h', toks := tk + 1 }) eo fun h'' c1 sb => ?_
    have hn : H s.heap.objs.size = none := I.hok.fresh (Nat.le_refl _)
    have kk : ∀ c o, c ∉ [e, it] → s.heap.get? c = some o → h''.get? c = some o := fun c o hc' q => by
      simp only [List.mem_cons, List.not_mem_nil, or_false, not_or] at hc'
      exact (sb.2 _ hc'.1).trans (hk c o hc'.1 hc'.2 q)
    have T1 : h''.get? s.heap.objs.size = some { cls := .type "tuple", data := .seq #[.int i tk, y] } := (sb.2 _ (lt he)).trans hT
    refine ⟨.ref s.heap.objs.size, upd H s.heap.objs.size (.tup [.int i, x]), I.turnedNew (t' := tk + 1) hf kk (Nat.le_refl _) ⟨by show 2 ≤ _; decide, [.int i tk, y], .cons ⟨_, rfl⟩ (.cons ru .nil), _, T1, rfl, _, rfl, rfl⟩, rfl, ⟨_, x, rfl, hn, rfl, fun xs' q1 => ?_⟩,
      ⟨⟨_, by simpa using c1⟩, st'.1.at fun o q => (sb.2 _ hei.symm).trans q⟩, fun b hb => ?_⟩
    · rw [I.seqB_inj q1 hq1]; exact hx
    · rw [upd_ne]
      · exact (hf b hb).1
      · simp only [List.mem_cons, List.not_mem_nil, or_false] at hb
        obtain ⟨o1, e1, _⟩ := h1.ob
        rcases hb with rfl | rfl
        · exact (lt he).symm
        · exact (lt e1).symm
  done := by
    intro X hP hw hK hc i pins s σ H E I hf st hg
    subst hP hw hK
    obtain ⟨xs, hq1, hx⟩ := hg
    obtain ⟨its1, rv1, p1, _⟩ := I.seqB hq1
    have l1 := rv1.length
    obtain ⟨⟨old, he⟩, h1⟩ := st
    have hh : X.A.in1.handled = none := I.ok.hd hc
    exact end_enumB hh he h1 p1 (by simp; omega) fun h' eb => ⟨rfl, I.turnedL (t' := s.toks) hf fun c o hc' q => eb c o (by simp at hc'; exact hc'.2) q⟩
  self := fun _ _ _ _ _ st h => by
    obtain ⟨⟨old, he⟩, _⟩ := st
    exact wpAny_pyIter_enum he h
theorem boot_enumerate : bootBuiltins "enumerate" = some (.type "enumerate") := by decide +kernel
end L2
set_option Elab.async false
set_option linter.all false
set_option maxRecDepth 100000
set_option maxHeartbeats 4000000
namespace L2
open PySem PySem.Spec PyProof.Rows
section
variable {X : Cx}
theorem SqB.t {K : PySem.W.Frag} {H : Hp} {a : Addr} {xs : List V} (h : H a = some (.tup xs)) : SqB K H false a xs := SqT.of h
noncomputable def rGetL : V → V → Hp → VK → Prop := fun o i H Q => ∃ p xs k v, o = .ref p ∧ i = .int k ∧ 0 ≤ k ∧ H p = some (.lst xs) ∧ atI xs k = some v ∧ Q v H
theorem get_list : PGet X rGetL := by
  intro pins s σ H o i ov iv Q I ro ri h
  obtain ⟨p, xs, k, z, rfl, rfl, h0, hp, he, q⟩ := h
  cases ro
  obtain ⟨t, rfl⟩ := ri
  obtain ⟨its, r, pl, hz⟩ := I.list (SqL.of (K := X.K) hp)
  obtain ⟨j, h1, h2, h3, h4, h5⟩ := atI_get he
  obtain ⟨w, ew, rw'⟩ := r.get h2
  have hl := r.length
  have hn := line63
  have hj : k.toNat = j := by
    rw [seqIndex_of h0 h5] at h1
    exact Option.some.inj h1
  exact wpAny_getItem_list pl.isList h0 (by omega) (by rw [hj]; simpa using ew) ⟨z, H, I, rw', q⟩
end
end L2
set_option Elab.async false
set_option linter.all false
set_option maxRecDepth 100000
set_option maxHeartbeats 1000000
namespace L2
open PySem PySem.Spec PyProof.Rows MA
noncomputable abbrev iv (ns : List Int) : List V := ns.map V.int
theorem iv_get {ns : List Int} {i : Nat} (h : i < ns.length) : (iv ns)[i]? = some (.int ns[i]) := by rw [List.getElem?_map, List.getElem?_eq_getElem h]; rfl
theorem iv_atI {ns : List Int} {i : Nat} (h : i < ns.length) : atI (iv ns) (i : Int) = some (.int (ns.getD i 0)) := by
  rw [atI_nat (iv_get h), getD_of h]
end L2
namespace My
open PySem L2 MA
theorem lz {m : Nat} (n : Nat) (h : m = n) (hn : n ≤ 100 := by decide) : m ≤ sizeLine := by
  rw [h, sizeLine_eq]; omega
end My
set_option Elab.async false
set_option linter.all false
set_option maxRecDepth 100000
set_option maxHeartbeats 1000000
namespace L2
open PySem PySem.Spec PyProof.Rows MA
noncomputable def hoB : Bool → List V → HO
  | true, xs => .lst xs
  | false, xs => .tup xs
theorem SqB.of {K : PySem.W.Frag} {H : Hp} {b : Bool} {a : Addr} {xs : List V} (h : H a = some (hoB b xs)) : SqB K H b a xs := by
  cases b
  · exact SqT.of h
  · exact SqL.of h
end L2
namespace HT
open PySem PySem.Spec PyProof.Rows
section
variable {prog : Program} {w : World} {A : Around} {E : Value → Shared → Prop} {s : Shared}
theorem getItem_tuple_all {t sl : Addr} {items : Array Value} {vl vu : Value} {lo hi : Option Int} {Q : Value → Shared → Prop} (ht : IsTup s.heap t items) (hs : s.heap.IsSliceOf sl vl vu .none) (pl : IsPart vl lo) (pu : IsPart vu hi)
    (hw : sIx items.size 0 lo = 0 ∧ sIx items.size items.size hi = items.size) (h : Q (.ref t) s) : wpAny (model prog w) A (getItem (.ref t) (.ref sl)) Q E s := by
  obtain ⟨os, q1, q2, q3⟩ := id hs
  have T : s.TypeIs (.ref sl) "slice" := ⟨os, q1, q2⟩
  unfold getItem
  try with_reducible refine wpAny_holding ?_
  first | refine wpAny_bind (wpAny_pure ?_) | skip
  refine wpAny_bind (wpAny_sequenceKey ht.typeIs (by decide) (wpAny_bind (wpAny_callSpecial?_slot (name := Str.ofString "__getitem__") ht.typeIs PyProof.Rows.slot_tuple_getitem (wpAny_call_entry PyProof.Rows.slot_tuple_getitem ht.typeIs entry_tuple_getitem ?_ (args_tuple_getitem _ _)))))
  refine wpAny_bind (m := Builtin.Tuple.tupleItemsOf (.ref t)) (tupleItemsOf_ ht (wpAny_bind (wpAny_typeOf T ?_)))
  rw [if_pos (by decide)]
  refine wpAny_bind (sliceApplied_gen hs pl pu ?_)
  show wpAny (model prog w) _ (if (((sIx items.size 0 lo : Nat) : Int) == 0 && (1 : Int) == 1 && (sIx items.size items.size hi - sIx items.size 0 lo) == items.size) = true then _ else _) _ _ s
  rw [if_pos (by rw [hw.1, hw.2]; simp)]
  refine wpAny_bind (m := Builtin.Tuple.tupleIsExact (.ref t)) ?_
  unfold Builtin.Tuple.tupleIsExact
  refine wpAny_bind (wpAny_typeOf ht.typeIs (wpAny_pure ?_))
  rw [if_pos (by decide)]
  exact wpAny_bind (wpAny_rule (wpAny_pure ⟨_, rfl, wpAny_pure h⟩))
end
end HT
namespace L2
open PySem PySem.Spec PyProof.Rows MA
theorem sl_tupS {X : Cx} : SlR X (fun x lo hi H Q => ∃ a xs, x = .ref a ∧ H a = some (.tup xs) ∧ ∀ c H', Same H H' → H' c = some (.tup (cutV xs lo hi)) → Q (.ref c) H') := by
  intro pins s σ H x v vl vu lo hi sl Q I rx hs pl pu h
  obtain ⟨a, xs, e, hx, q⟩ := h
  by_cases hw : HT.sIx xs.length 0 lo = 0 ∧ HT.sIx xs.length xs.length hi = xs.length
  · subst e
    cases rx
    obtain ⟨its, r, ht, hz⟩ := I.tuple (SqT.of (K := X.K) hx)
    have hlen : its.toArray.size = xs.length := by rw [List.size_toArray]; exact r.length.symm
    refine ⟨"tuple", _, PyProof.Rows.slot_tuple_getitem.lookup, ht.typeIs, HT.getItem_tuple_all ht hs pl pu (by rw [hlen]; exact hw) ⟨.ref a, H, I, rfl, q a H (Same.refl _) ?_⟩⟩
    have : cutV xs lo hi = xs := by
      unfold cutV
      rw [hw.1, hw.2]
      simp
    rw [this]
    exact hx
  · exact sl_tup pins s σ H x v vl vu lo hi sl Q I rx hs pl pu ⟨a, xs, e, SqT.of hx, hw, fun p hp => q p _ (same_new hp _) upd_same⟩
section
variable {X : Cx} {e : Expr} {te : TE} {p2 p3 p4 pos : Pos}
theorem rep1 (x : Int) : ∀ k : Nat, (List.replicate k [V.int x]).flatten = iv (List.replicate k x)
  | 0 => rfl
  | k + 1 => by rw [List.replicate_succ, List.flatten_cons, rep1 x k, List.replicate_succ]; rfl
end
end L2
namespace L2
open PySem PySem.Spec PyProof.Rows MA
end L2
set_option Elab.async false
set_option linter.all false
set_option maxRecDepth 100000
set_option maxHeartbeats 4000000
namespace L2
open PySem PySem.Spec PyProof.Rows
noncomputable abbrev TB := St → Hp → (St → Hp → Prop) → Prop
noncomputable def PB (X : Cx) (p : Addr) (body : Value → Env → Sem Unit) (t : TB) : Prop :=
  ∀ (pins : List (Addr × Obj)) (s : Shared) (σ : St) (H : Hp) (Q : St → Hp → Prop), Inv X pins σ H s → t σ H Q →
    wpAny (model X.prog X.w) X.A (body (.ref p) X.env) (fun _ s' => ∃ σ' H', Inv X pins σ' H' s' ∧ Q σ' H') X.xe s
noncomputable def LoopW (J : It) (g : TG) (tc : TT) (tb : TB) (σ : St) (H : Hp) (Q : St → Hp → Prop) : Prop :=
  ∃ W : Nat → Nat → St → Hp → Prop, (∃ m, W 0 m σ H) ∧ ∀ i m σ' H', W i m σ' H' →
    (J.stop i H' ∧ Q σ' H') ∨ (J.go i H' ∧ ∀ x H2, J.yld i H' x H2 → g x σ' H2 fun σ2 H3 => tc σ2 H3 fun b H4 => if b = true then tb σ2 H4 fun σ5 H5 => ∃ m', m' < m ∧ W (i + 1) m' σ5 H5 else ∃ m', m' < m ∧ W (i + 1) m' σ2 H4)
noncomputable def emitL (elt : Expr) : Value → Env → Sem Unit := fun acc env => do let _ ← call (.builtin "list.append") [acc, ← eval elt env]
noncomputable def tEmit (p : Addr) (te : TE) : TB := fun σ H Q => te σ H fun v H5 => ∃ ys, ys.length < sizeLine ∧ H5 p = some (.lst ys) ∧ Q σ (upd H5 p (.lst (ys ++ [v])))
theorem pb_emit {X : Cx} {p : Addr} {elt : Expr} {te : TE} (he : PE X elt te) : PB X p (emitL elt) (tEmit p te) := by
  intro pins s σ H Q I h
  refine wpAny_bind (thn (he pins s σ H _ I h) fun y s8 h8 => ?_)
  obtain ⟨v, H8, I8, r8, ys, hz, hH8, w8⟩ := h8
  refine wpAny_bind (thn (mt_append (X := X) _ s8 σ H8 (.ref p) [v] (.ref p) [y] (fun x H9 => x = .non ∧ H9 = upd H8 p (.lst (ys ++ [v]))) I8 rfl (.cons r8 .nil) ⟨p, ys, v, rfl, rfl, hH8, hz, rfl, rfl⟩) fun _ s9 h9 => ?_)
  obtain ⟨z, H9, I9, _, _, e9⟩ := h9
  subst e9
  exact wpAny_pure ⟨σ, _, I9, w8⟩
noncomputable def turnOf (e : Expr) (d : Nat) (tg iter : Expr) (ifs : List Expr) (body : Value → Env → Sem Unit) (it acc : Value) (env : Env) : Sem Fin := do
  standAt iter.pos
  match ← pyNext it with
  | none => pure (.done .next)
  | some v =>
    letOwnedTupleGo tg it v
    assign tg env v
    let mut ok := true
    for c in ifs do
      if ok then ok ← isTrue c env (eval c env)
    if ok then
      body acc env
    again (.compLoop e d it acc env)
noncomputable def twoL (e : Expr) (iter : Expr) : Value → Env → Sem Unit := fun acc env => do
  let x ← eval iter env
  standAt iter.pos
  let x ← foldedSetIterable iter env x
  let _ ← runOwn (.compStart e 1 (← holding [x] (pyIter x)) acc env) env
theorem turn_two0 (elt tg iter tg2 iter2 : Expr) (ifs ifs2 : List Expr) (scope : Scope) (pos : Pos) (it acc : Value) (env : Env) :
    compTurn (.ListComp elt [⟨tg, iter, ifs, 0⟩, ⟨tg2, iter2, ifs2, 0⟩] scope pos) 0 it acc env = turnOf (.ListComp elt [⟨tg, iter, ifs, 0⟩, ⟨tg2, iter2, ifs2, 0⟩] scope pos) 0 tg iter ifs (twoL (.ListComp elt [⟨tg, iter, ifs, 0⟩, ⟨tg2, iter2, ifs2, 0⟩] scope pos) iter2) it acc env := by
  unfold turnOf
  refine congrArg (standAt iter.pos >>= ·) (funext fun _ => congrArg (pyNext it >>= ·) (funext fun r => ?_))
  cases r with
  | none => rfl
  | some v =>
    refine congrArg (letOwnedTupleGo tg it v >>= ·) (funext fun _ => congrArg (assign tg env v >>= ·) (funext fun _ => congrArg (_ >>= ·) (funext fun ok => ?_)))
    cases ok with
    | false => rfl
    | true =>
      rw [if_pos rfl, if_pos rfl]
      simp only [twoL, bind_assoc]
      rfl
theorem turn_two1 (elt tg iter tg2 iter2 : Expr) (ifs ifs2 : List Expr) (scope : Scope) (pos : Pos) (it acc : Value) (env : Env) :
    compTurn (.ListComp elt [⟨tg, iter, ifs, 0⟩, ⟨tg2, iter2, ifs2, 0⟩] scope pos) 1 it acc env = turnOf (.ListComp elt [⟨tg, iter, ifs, 0⟩, ⟨tg2, iter2, ifs2, 0⟩] scope pos) 1 tg2 iter2 ifs2 (emitL elt) it acc env := by rfl
theorem start_of {M : Model} {A : Around} {R : Result → Shared → Prop} {s : Shared} {e : Expr} {d : Nat} {g : Comprehension} {it acc : Value} {env : Env} (hg : (clausesOf e)[d]? = some g) (ha : g.is_async = 0)
    (h0 : codeAny M A (.compLoop e d it acc env) R s) (hden : M.den (.compStart e d it acc env) = (compStart e d it acc env).onRaise (fun x => do noteFrame x env; standAt theWindowsPlace)) (hun : A.under (.compStart e d it acc env) = A) (hq : Code.quiet (.compLoop e d it acc env) = true)
    (h : wpAny M A (pyIter it) (fun it' s' => codeAny M A (.compLoop e d it' acc env) R s') (notedBy M A env fun x s' => R (.error x) s') s) (hq' : ∀ it', Code.quiet (.compLoop e d it' acc env) = true) : codeAny M A (.compStart e d it acc env) R s := by
  refine codeAny_of_tree ?_
  rw [hden, hun]
  refine wpAny_notedAt ?_
  unfold compStart
  rw [hg]
  simp only [Option.elim, ha]
  show wpAny _ _ (ask >>= _) _ _ s
  refine wpAny_bind (wpAny_askSetting (wpAny_ite ?_))
  split
  · first
      | exact wpAny_bind (wpAny_pure (wpAny_pure ⟨hq, h0⟩))
      | exact wpAny_pure ⟨hq, h0⟩
  · refine wpAny_bind (wpAny_rule ?_)
    show wpAny _ _ (standAt g.iter.pos >>= _) _ _ s
    exact wpAny_bind (wpAny_standAt (wpAny_bind (wpAny_mono h (fun it' s' h' => wpAny_pure ⟨hq' it', h'⟩) fun _ _ x => x)))
theorem loop_of {X : Cx} {elt tg iter : Expr} {gens : List Comprehension} {scope : Scope} {pos : Pos} {d : Nat} {ifs : List Expr} {body : Value → Env → Sem Unit} {J : It} {fp : List Addr} {it p : Addr} {tn : Nat → Heap → Prop} {g : TG} {tc : TT} {tb : TB} {pins : List (Addr × Obj)} {s : Shared} {σ : St} {H : Hp} {Q : St → Hp → Prop} {R : Result → Shared → Prop}
    (hturn : compTurn (.ListComp elt gens scope pos) d (.ref it) (.ref p) X.env = turnOf (.ListComp elt gens scope pos) d tg iter ifs body (.ref it) (.ref p) X.env) (hc : X.calm = true) (hxe : ∀ e s, X.xe e s → False) (T : Turn X.prog X.w X.K tg J fp it tn) (hg : PG X tg g) (ht : PTs X ifs tc) (hb : PB X p body tb)
    (I : Inv X pins σ H s) (st : tn 0 s.heap) (f2 : ∀ b ∈ fp, FpOk X pins H b) (h : LoopW J g tc tb σ H Q) (hR : ∀ s' σ' H', Inv X pins σ' H' s' → Q σ' H' → R (.ok .next) s') :
    codeAny (model X.prog X.w) X.A (.compLoop (.ListComp elt gens scope pos) d (.ref it) (.ref p) X.env) R s := by
  obtain ⟨W, ⟨m0, w0⟩, turn⟩ := h
  have stat : ∀ {H' : Hp}, (∀ b ∈ fp, H' b = none) → ∀ b ∈ fp, FpOk X pins H' b := fun hn b hb => ⟨hn b hb, (f2 b hb).2⟩
  refine codeAny_loop rfl (fun n s' => ∃ i σ' H', Inv X pins σ' H' s' ∧ tn i s'.heap ∧ (∀ b ∈ fp, H' b = none) ∧ W i n σ' H') (fun n s' hI => ?_) m0 ⟨0, σ, H, I, st, fun b hb => (f2 b hb).1, w0⟩
  obtain ⟨i, σ', H', J', st', fr', w'⟩ := hI
  show wpAny _ X.A ((compTurn (.ListComp elt gens scope pos) d (.ref it) (.ref p) X.env).onRaise (fun x => do noteFrame x X.env; theTreesLotGoes x)) _ _ s'
  refine wpAny_noted ?_
  rw [hturn]
  unfold turnOf
  rcases turn i n σ' H' w' with ⟨stop, q⟩ | ⟨go, step⟩
  · refine wpAny_bind (wpAny_standAt (wpAny_bind (wpAny_mono (T.done X rfl rfl rfl hc i pins s' σ' H' X.xe J' (stat fr') st' stop) (fun r s4 h4 => ?_) fun _ _ x => (hxe _ _ x).elim)))
    obtain ⟨hr, I4⟩ := h4
    subst hr
    exact wpAny_pure (hR s4 σ' H' I4 q)
  · refine wpAny_bind (wpAny_standAt (wpAny_bind (wpAny_mono (T.item X rfl rfl rfl hc i pins s' σ' H' X.xe J' (stat fr') st' go) (fun r s4 h4 => ?_) fun _ _ x => (hxe _ _ x).elim)))
    obtain ⟨u, hr, h4⟩ := h4
    subst hr
    refine wpAny_bind (wpAny_mono h4 (fun _ s5 h5 => ?_) fun _ _ x => (hxe _ _ x).elim)
    obtain ⟨x, H5, I5, r5, y5, st5, fr5⟩ := h5
    have I5' := I5.pinned (stat fr5) (T.obj _ _ st5)
    refine wpAny_bind (wpAny_mono (hg _ s5 σ' H5 x u _ I5' r5 (step x H5 y5)) (fun _ s6 h6 => ?_) fun _ _ x => (hxe _ _ x).elim)
    obtain ⟨σ6, H6, I6, q6⟩ := h6
    have again : ∀ {σ7 : St} {H7 : Hp} {s7 : Shared}, Inv X (pins ++ pinsAt fp s5.heap) σ7 H7 s7 → (∃ m', m' < n ∧ W (i + 1) m' σ7 H7) →
        ∃ m, m < n ∧ ∃ i σ' H', Inv X pins σ' H' s7 ∧ tn i s7.heap ∧ (∀ b ∈ fp, H' b = none) ∧ W i m σ' H' := fun {σ7 H7 s7} I7 n7 => by
      obtain ⟨m', hm, w7⟩ := n7
      refine ⟨m', hm, i + 1, σ7, H7, I7.unpinned, T.keep _ _ _ st5 fun b hb o e => (I7.pin (b, o) (List.mem_append_right _ (List.mem_append_right _ (mem_pinsAt hb e)))).1, fun b hb => ?_, w7⟩
      obtain ⟨o, e, d⟩ := T.obj _ _ st5 b hb
      exact (I7.pin (b, o) (List.mem_append_right _ (List.mem_append_right _ (mem_pinsAt hb e)))).2.1
    refine wpAny_bind (wpAny_mono (ht _ s6 σ6 H6 _ I6 q6) (fun ok s7 h7 => ?_) fun _ _ x => (hxe _ _ x).elim)
    obtain ⟨H7, I7, q7⟩ := h7
    cases ok with
    | false =>
      rw [if_neg Bool.false_ne_true] at q7
      exact wpAny_pure ⟨rfl, again I7 q7⟩
    | true =>
      rw [if_pos rfl] at q7
      refine wpAny_bind (wpAny_mono (hb _ s7 σ6 H7 _ I7 q7) (fun y s8 h8 => ?_) fun _ _ x => (hxe _ _ x).elim)
      obtain ⟨σ8, H8, I8, w8⟩ := h8
      exact wpAny_pure ⟨rfl, again I8 w8⟩
noncomputable def tTwo (wi : TI) (g : TG) (tc : TT) (tb : TB) : TB := fun σ H Q => wi σ H fun J H1 => LoopW J g tc tb σ H1 Q
theorem pb_two {X : Cx} {elt tg iter tg2 iter2 : Expr} {ifs ifs2 : List Expr} {scope : Scope} {pos : Pos} {p : Addr} {wi : TI} {g : TG} {tc : TT} {te : TE} (hc : X.calm = true) (hxe : ∀ e s, X.xe e s → False) (hi : PI X tg2 iter2 wi) (hg : PG X tg2 g) (ht : PTs X ifs2 tc) (he : PE X elt te)
    (hs : ∀ x, foldedSetIterable iter2 X.env x = pure x) : PB X p (twoL (.ListComp elt [⟨tg, iter, ifs, 0⟩, ⟨tg2, iter2, ifs2, 0⟩] scope pos) iter2) (tTwo wi g tc (tEmit p te)) := by
  intro pins s σ H Q I h
  unfold twoL
  refine wpAny_bind (thn (hi pins s σ H _ I h) fun v s1 h1 => wpAny_bind (wpAny_standAt (wpAny_bind (wpAny_of_eq (hs v) (wpAny_bind (wpAny_holding (thn h1 fun itv s2 h2 => ?_)))))))
  obtain ⟨it, fp, tn, J, H2, e, I2, T, st2, f2, h3⟩ := h2
  subst e
  refine wpAny_bind (wpAny_runOwn ?_)
  have loop : codeAny (model X.prog X.w) X.A (.compLoop (.ListComp elt [⟨tg, iter, ifs, 0⟩, ⟨tg2, iter2, ifs2, 0⟩] scope pos) 1 (.ref it) (.ref p) X.env) (fun r s' => match r with | .ok f => wpAny (model X.prog X.w) X.A (pure ()) (fun _ s' => ∃ σ' H', Inv X pins σ' H' s' ∧ Q σ' H') X.xe s' | .error e => cameBackBy (model X.prog X.w) X.A X.env X.xe e s') s2 :=
    loop_of (turn_two1 _ _ _ _ _ _ _ _ _ _ _ _) hc hxe T hg ht (pb_emit he) I2 st2 f2 h3 fun s' σ' H' I' q' => wpAny_pure ⟨σ', H', I', q'⟩
  exact start_of (g := ⟨tg2, iter2, ifs2, 0⟩) rfl rfl loop rfl rfl rfl (T.self X.A 0 _ _ _ st2 loop) fun _ => rfl
noncomputable def tComp2 (σ0 : St → St) (wi : TI) (g : TG) (tc : TT) (wi2 : TI) (g2 : TG) (tc2 : TT) (te : TE) : TE := fun σ H Q => wi σ H fun J H1 => ∀ p, H1 p = none → LoopW J g tc (tTwo wi2 g2 tc2 (tEmit p te)) (σ0 σ) (upd H1 p (.lst [])) fun _ H' => Q (.ref p) H'
theorem comp_core2 {X : Cx} {elt tg iter tg2 iter2 : Expr} {ifs ifs2 : List Expr} {scope : Scope} {pos pos2 : Pos} {wi wi2 : TI} {g g2 : TG} {tc tc2 : TT} {te : TE} {N : List Str} {σ0 : St → St} {pins : List (Addr × Obj)} {s : Shared} {σ : St} {H : Hp} {Q : VK} {use : Option (Value → Sem Unit)} {QQ : Value → Shared → Prop}
    (hc : X.calm = true) (hxe : ∀ e s, X.xe e s → False) (hcell : ∀ y ∈ scope.names, y.2 ≠ .cell) (hkind : scope.kind = .function) (hnames : ∀ y ∈ scope.names, y.2 = .local → scope.names.lookup y.1 = some .local)
    (hfr : ∀ y ∈ scope.names, y.2 = .free → X.env.kindOf y.1 = some .cell ∨ X.env.kindOf y.1 = some .free) (hσ : Sees X scope N σ0)
    (hi : PI X tg iter wi)
    (hg : ∀ cl C s H ex, PG (cxComp X scope N cl C s H ex) tg g) (ht : ∀ cl C s H ex, PTs (cxComp X scope N cl C s H ex) ifs tc) (hi2 : ∀ cl C s H ex, PI (cxComp X scope N cl C s H ex) tg2 iter2 wi2) (hg2 : ∀ cl C s H ex, PG (cxComp X scope N cl C s H ex) tg2 g2) (ht2 : ∀ cl C s H ex, PTs (cxComp X scope N cl C s H ex) ifs2 tc2) (he : ∀ cl C s H ex, PE (cxComp X scope N cl C s H ex) elt te)
    (hs : ∀ x, foldedSetIterable iter X.env x = pure x) (hs2 : ∀ env x, foldedSetIterable iter2 env x = pure x) (I : Inv X pins σ H s) (h : tComp2 σ0 wi g tc wi2 g2 tc2 te σ H Q)
    (hend : ∀ (p C : Addr) (H' : Hp) (s' : Shared) (m : Str → Option Value) (f : Flow), Inv X pins σ H' s' → FpOk X pins H' C → s'.heap.Ns C m → (∀ h', Heap.SameBut C s'.heap h' → Inv X pins σ H' { s' with heap := h' }) → Q (.ref p) H' →
      compPost (model X.prog X.w) X.A X.xe use QQ (.ref p) C (.ok f) s') :
    wpAny (model X.prog X.w) X.A (comprehension (.ListComp elt [⟨tg, iter, ifs, 0⟩, ⟨tg2, iter2, ifs2, 0⟩] scope pos) scope X.env pos2 (newList []) false (eval iter X.env) use) QQ X.xe s := by
  obtain ⟨cl, hclos, hcl1, hcl2⟩ := closure_of (env := X.env) (scope := scope) fun y hy hf => I.ok.has y.1 (hfr y hy hf)
  refine wpAny_comprehension_free (use := use) rfl hs hclos hkind hnames (thn (hi pins s σ H _ I h) fun v s1 h1 => thn h1 fun itv s2 h2 => ?_)
  obtain ⟨it, fp, tn, J, H2, e, I2, T, st2, f2, h3⟩ := h2
  subst e
  have hpn : H2 s2.heap.objs.size = none := I2.hok.fresh (Nat.le_refl _)
  have h4 := h3 _ hpn
  refine wpAny_newObj_type ?_
  generalize hp : s2.heap.objs.size = p at *
  have I3 : Inv X pins σ (upd H2 p (.lst [])) { s2 with heap := s2.heap.push { cls := .type "list", dict := none, data := .seq ([] : List Value).toArray } } := by
    refine I2.laid (a := p) (o := .lst []) (t' := s2.toks) (fun b u q => Heap.get?_push_of_some _ q) (Nat.le_of_eq hp) ⟨Nat.zero_le _, [], 0, .nil, ?_⟩
    rw [← hp]
    exact Heap.get?_push_size _ rfl
  have hf3 : ∀ b ∈ fp, FpOk X pins (upd H2 p (.lst [])) b := fun b hb => by
    obtain ⟨o, ho, _⟩ := T.obj _ _ st2 b hb
    have : b ≠ p := by rw [← hp]; exact Nat.ne_of_lt (Heap.lt_size ho)
    exact ⟨by rw [upd_ne this]; exact (f2 b hb).1, (f2 b hb).2⟩
  generalize hs3 : ({ s2 with heap := s2.heap.push { cls := .type "list", dict := none, data := .seq ([] : List Value).toArray } } : Shared) = s3 at *
  have st3 : tn 0 s3.heap := by rw [← hs3]; exact T.keep _ _ _ st2 fun b _ o e => Heap.get?_push_of_some _ e
  generalize hH3 : upd H2 p (.lst []) = H3 at *
  refine wpAny_newFunctionEnv hcell (by intro y hy; simp at hy) (fun h1 hns1 hsb1 => ?_) hkind
  generalize hC : s3.heap.objs.size = C at *
  have keep : ∀ b u, s3.heap.get? b = some u → h1.get? b = some u := fun b u q =>
    hsb1.extBut b u (by rw [← hC]; exact Nat.ne_of_lt (Heap.lt_size q)) (Heap.get?_push_of_some _ q)
  have fpC : ∀ b ∈ fp, b ≠ C := fun b hb => by
    obtain ⟨o, ho, _⟩ := T.obj _ _ st3 b hb
    rw [← hC]; exact Nat.ne_of_lt (Heap.lt_size ho)
  have hCn : H3 C = none := I3.hok.fresh (Nat.le_of_eq hC)
  have ok' : (cxComp X scope N cl C s3 H3 fp).Ok := by
    refine ⟨I3.mod, hkind, I3.ok.glob, I3.ok.blt, Nat.le_of_eq hC, fun x y c a b => I3.ok.inj x y c (hcl1 x c a) (hcl1 y c b), fun x hx => ?_, fun _ _ z => Bool.noConfusion (show false = true from z), I3.ok.hd, I3.ok.frames, .inl rfl, fun b hb => ⟨fpC b hb, fun x c q => (hf3 b hb).2.2.2.2.1 x c (hcl1 x c q)⟩,
      I3.bs, Nat.le_trans I3.ok.bsz I3.sz, fun b o e hb => ?_, fun b hb z => ?_, I3.stack, I3.stkFree⟩
    · have hx' : (relabel scope X.env).names.lookup x = some .cell ∨ (relabel scope X.env).names.lookup x = some .free := hx
      rcases hx' with z | z
      · rcases lookup_relabel_mem z with y | ⟨_, y⟩
        · exact absurd rfl (hcell _ y)
        · exact hcl2 x y
      · rcases lookup_relabel_mem z with y | ⟨y, _⟩
        · exact hcl2 x y
        · cases y
    · rcases (hf3 b hb).2.2.2.1 with z | z
      · exact I3.ok.noex b o e z
      · exact absurd (Nat.lt_of_lt_of_le (Heap.lt_size e) (Nat.le_trans I3.ok.bsz z)) (Nat.lt_irrefl _)
    · rcases List.mem_cons.mp (I3.stkSub b z) with q | q
      · exact (hf3 b hb).2.1 q
      · exact (hf3 b hb).2.2.1 q
  have J0 : Inv (cxComp X scope N cl C s3 H3 fp) [] (σ0 σ) H3 { s3 with heap := h1, toks := s3.toks + ([] : List (Str × Value)).length } := by
    refine ⟨ok', rfl, I3.bare, Un.kept keep, ⟨_, hns1, fun i x v a b c => ?_⟩, fun x c q => ?_, hCn, fun x c q => I3.freeC x c (hcl1 x c q), fun q hq => absurd (show q ∈ ([] : List (Addr × Obj)) from hq) (by simp), I3.hok.kept keep, (hσ σ).1⟩
    · obtain ⟨hf, j, hj, hv⟩ := (hσ σ).2 i x v a b
      have hm := mem_of_lookupF hf
      obtain ⟨m, hn, hl⟩ := id I3.loc
      have hk := hfr _ hm rfl
      have hvis : Vis X.env.scope x := hk.elim (fun z => .inr (.inl z)) fun z => .inr (.inr z)
      obtain ⟨u, r, lk⟩ := hl j x v hj hv hvis
      refine ⟨u, r, .inr ⟨lookup_relabel_free hf, ?_⟩⟩
      obtain ⟨c', hc'⟩ := hcl2 x hm
      refine ⟨c', hc', ?_⟩
      have hx := hcl1 x c' hc'
      rcases lk with ⟨kl, _⟩ | ⟨_, c2, e2, o2, ho2, hd2⟩
      · rcases hk with z | z <;> rw [kl] at z <;> cases z
      · rw [hx] at e2
        cases e2
        exact ⟨o2, keep _ _ ho2, hd2⟩
    · obtain ⟨v, o, ho, hd⟩ := I3.cell x c (hcl1 x c q)
      exact ⟨v, o, keep _ _ ho, hd⟩
  have st4 : tn 0 h1 := T.keep _ _ _ st3 fun b _ o e => keep b o e
  have stat : ∀ {H' : Hp}, (∀ b ∈ fp, H' b = none) → ∀ b ∈ fp, FpOk (cxComp X scope N cl C s3 H3 fp) [] H' b := fun hn b hb =>
    ⟨hn b hb, fpC b hb, fun z => ok'.exfs b hb z, .inl hb, fun x c q => (hf3 b hb).2.2.2.2.1 x c (hcl1 x c q), fun q hq => absurd (show q ∈ ([] : List (Addr × Obj)) from hq) (by simp)⟩
  have back : ∀ {σ' : St} {H' : Hp} {s' : Shared} {pl : List (Addr × Obj)}, Inv (cxComp X scope N cl C s3 H3 fp) pl σ' H' s' → ∀ h', Heap.SameBut C s'.heap h' → Inv X pins σ H' { s' with heap := h' } := fun {σ' H' s' pl} J h' hsb => by
    have I5 : Inv X pins σ H' s' := Inv.call' (ch := fp) I3 J.os J.base J.hok J.bare fun b hb => ⟨(hf3 b hb).2.2.2.1, (hf3 b hb).2.1, (hf3 b hb).2.2.2.2.1, (hf3 b hb).2.2.2.2.2⟩
    refine Inv.turned (it := C) (t' := s'.toks) I5 (fun b o hb e => hsb.extBut b o hb e) J.free (fun z => ?_) (.inr ?_) (fun x c q z => ?_) fun q hq z => ?_
    · exact absurd (show X.env.locals < C by rw [← hC]; exact I3.lt) (by rw [z]; exact Nat.lt_irrefl _)
    · rw [← hC]; exact I3.sz
    · obtain ⟨v, o, ho, _⟩ := I3.cell x c q
      have := Heap.lt_size ho
      rw [z, hC] at this
      exact Nat.lt_irrefl _ this
    · have := Heap.lt_size (I3.pin q hq).1
      rw [z, hC] at this
      exact Nat.lt_irrefl _ this
  have ff : ∀ b ∈ fp, FpOk (cxComp X scope N cl C s3 H3 fp) [] H3 b := stat fun b hb => (hf3 b hb).1
  have loop : codeAny (model X.prog X.w) X.A (.compLoop (.ListComp elt [⟨tg, iter, ifs, 0⟩, ⟨tg2, iter2, ifs2, 0⟩] scope pos) 0 (.ref it) (.ref p) (compEnvC scope cl C X.env)) (compPost (model X.prog X.w) X.A X.xe use QQ (.ref p) C) { s3 with heap := h1, toks := s3.toks + ([] : List (Str × Value)).length } := by
    refine loop_of (X := cxComp X scope N cl C s3 H3 fp) (Q := fun _ H' => Q (.ref p) H') (turn_two0 _ _ _ _ _ _ _ _ _ _ _ _) hc hxe T (hg cl C s3 H3 fp) (ht cl C s3 H3 fp) (pb_two hc hxe (hi2 cl C s3 H3 fp) (hg2 cl C s3 H3 fp) (ht2 cl C s3 H3 fp) (he cl C s3 H3 fp) (hs2 _)) J0 st4 ff h4 ?_
    intro s4 σ' H' I4 q
    obtain ⟨m, hn, _⟩ := id I4.loc
    have I5 : Inv X pins σ H' s4 := Inv.call' (ch := fp) I3 I4.os I4.base I4.hok I4.bare fun b hb => ⟨(hf3 b hb).2.2.2.1, (hf3 b hb).2.1, (hf3 b hb).2.2.2.2.1, (hf3 b hb).2.2.2.2.2⟩
    exact hend p C H' s4 m _ I5 (I3.fpOk (Nat.le_of_eq hC) I4.free) hn (fun h' hsb => back I4 h' hsb) q
  exact codeAny_compStart_list loop (T.self X.A 0 _ _ _ st4 loop)
theorem pe_comp2 {X : Cx} {elt tg iter tg2 iter2 : Expr} {ifs ifs2 : List Expr} {scope : Scope} {pos : Pos} {wi wi2 : TI} {g g2 : TG} {tc tc2 : TT} {te : TE} {N : List Str} {σ0 : St → St}
    (hc : X.calm = true) (hxe : ∀ e s, X.xe e s → False) (hcell : ∀ y ∈ scope.names, y.2 ≠ .cell) (hkind : scope.kind = .function) (hnames : ∀ y ∈ scope.names, y.2 = .local → scope.names.lookup y.1 = some .local)
    (hfr : ∀ y ∈ scope.names, y.2 = .free → X.env.kindOf y.1 = some .cell ∨ X.env.kindOf y.1 = some .free) (hσ : Sees X scope N σ0)
    (hi : PI X tg iter wi)
    (hg : ∀ cl C s H ex, PG (cxComp X scope N cl C s H ex) tg g) (ht : ∀ cl C s H ex, PTs (cxComp X scope N cl C s H ex) ifs tc) (hi2 : ∀ cl C s H ex, PI (cxComp X scope N cl C s H ex) tg2 iter2 wi2) (hg2 : ∀ cl C s H ex, PG (cxComp X scope N cl C s H ex) tg2 g2) (ht2 : ∀ cl C s H ex, PTs (cxComp X scope N cl C s H ex) ifs2 tc2) (he : ∀ cl C s H ex, PE (cxComp X scope N cl C s H ex) elt te)
    (hs : ∀ x, foldedSetIterable iter X.env x = pure x := by intro _; rfl) (hs2 : ∀ env x, foldedSetIterable iter2 env x = pure x := by intro _ _; rfl) : PE X (.ListComp elt [⟨tg, iter, ifs, 0⟩, ⟨tg2, iter2, ifs2, 0⟩] scope pos) (tComp2 σ0 wi g tc wi2 g2 tc2 te) := by
  intro pins s σ H Q I h
  rw [eval_ListComp]
  refine comp_core2 (use := none) (QQ := EP X pins σ Q) hc hxe hcell hkind hnames hfr hσ hi hg ht hi2 hg2 ht2 he hs hs2 I h ?_
  intro p C H' s' m f I5 fC hn back q
  exact ⟨m, hn, fun h' hsb => ⟨.ref p, H', back h' hsb, rfl, q⟩⟩
end L2
set_option Elab.async false
set_option linter.all false
set_option maxRecDepth 100000
set_option maxHeartbeats 1000000
namespace L2
open PySem PySem.Spec PyProof.Rows MA
end L2
set_option Elab.async false
set_option linter.all false
set_option maxRecDepth 100000
set_option maxHeartbeats 1000000
namespace L2
open PySem PySem.Spec PyProof.Rows MA SeqAt
end L2
set_option Elab.async false
set_option linter.all false
set_option maxRecDepth 100000
set_option maxHeartbeats 1000000
namespace PySem
open Sem (wp)
namespace F
end F
end PySem
namespace L2
open PySem PySem.Spec PyProof.Rows MA
end L2
set_option Elab.async false
set_option linter.all false
set_option maxRecDepth 100000
set_option maxHeartbeats 4000000
namespace L2
open PySem PySem.Spec PyProof.Rows
noncomputable def emitD (kx vx : Expr) : Value → Env → Sem Unit := fun acc env => match acc with
  | .ref D => do
    let kv ← eval kx env
    let vv ← holding [kv] (eval vx env)
    standAt { kx.pos with endLine := vx.pos.endLine, endCol := vx.pos.endCol }
    holding [kv, vv] (dictSet D kv vv)
  | _ => pure ()
theorem turn_d (kx vx tg iter : Expr) (ifs : List Expr) (scope : Scope) (pos : Pos) (it : Value) (D : Addr) (env : Env) :
    compTurn (.DictComp kx vx [⟨tg, iter, ifs, 0⟩] scope pos) 0 it (.ref D) env = turnOf (.DictComp kx vx [⟨tg, iter, ifs, 0⟩] scope pos) 0 tg iter ifs (emitD kx vx) it (.ref D) env := by
  rw [compTurn_dict]
  rfl
theorem wpAny_newDict0 {M : Model} {A : Around} {E : Value → Shared → Prop} {s : Shared} {Q : Value → Shared → Prop} (h : Q (.ref s.heap.objs.size) { s with heap := s.heap.push { cls := .type "dict", data := .dict #[] } }) : wpAny M A newDict Q E s :=
  wpAny_newObj_type h
theorem loop_ofD {X : Cx} {kx vx tg iter : Expr} {gens : List Comprehension} {scope : Scope} {pos : Pos} {d : Nat} {ifs : List Expr} {body : Value → Env → Sem Unit} {J : It} {fp : List Addr} {it p : Addr} {tn : Nat → Heap → Prop} {g : TG} {tc : TT} {tb : TB} {pins : List (Addr × Obj)} {s : Shared} {σ : St} {H : Hp} {Q : St → Hp → Prop} {R : Result → Shared → Prop}
    (hturn : compTurn (.DictComp kx vx gens scope pos) d (.ref it) (.ref p) X.env = turnOf (.DictComp kx vx gens scope pos) d tg iter ifs body (.ref it) (.ref p) X.env) (hc : X.calm = true) (hxe : ∀ e s, X.xe e s → False) (T : Turn X.prog X.w X.K tg J fp it tn) (hg : PG X tg g) (ht : PTs X ifs tc) (hb : PB X p body tb)
    (I : Inv X pins σ H s) (st : tn 0 s.heap) (f2 : ∀ b ∈ fp, FpOk X pins H b) (h : LoopW J g tc tb σ H Q) (hR : ∀ s' σ' H', Inv X pins σ' H' s' → Q σ' H' → R (.ok .next) s') :
    codeAny (model X.prog X.w) X.A (.compLoop (.DictComp kx vx gens scope pos) d (.ref it) (.ref p) X.env) R s := by
  obtain ⟨W, ⟨m0, w0⟩, turn⟩ := h
  have stat : ∀ {H' : Hp}, (∀ b ∈ fp, H' b = none) → ∀ b ∈ fp, FpOk X pins H' b := fun hn b hb => ⟨hn b hb, (f2 b hb).2⟩
  refine codeAny_loop rfl (fun n s' => ∃ i σ' H', Inv X pins σ' H' s' ∧ tn i s'.heap ∧ (∀ b ∈ fp, H' b = none) ∧ W i n σ' H') (fun n s' hI => ?_) m0 ⟨0, σ, H, I, st, fun b hb => (f2 b hb).1, w0⟩
  obtain ⟨i, σ', H', J', st', fr', w'⟩ := hI
  show wpAny _ X.A ((compTurn (.DictComp kx vx gens scope pos) d (.ref it) (.ref p) X.env).onRaise (fun x => do noteFrame x X.env; theTreesLotGoes x)) _ _ s'
  refine wpAny_noted ?_
  rw [hturn]
  unfold turnOf
  rcases turn i n σ' H' w' with ⟨stop, q⟩ | ⟨go, step⟩
  · refine wpAny_bind (wpAny_standAt (wpAny_bind (wpAny_mono (T.done X rfl rfl rfl hc i pins s' σ' H' X.xe J' (stat fr') st' stop) (fun r s4 h4 => ?_) fun _ _ x => (hxe _ _ x).elim)))
    obtain ⟨hr, I4⟩ := h4
    subst hr
    exact wpAny_pure (hR s4 σ' H' I4 q)
  · refine wpAny_bind (wpAny_standAt (wpAny_bind (wpAny_mono (T.item X rfl rfl rfl hc i pins s' σ' H' X.xe J' (stat fr') st' go) (fun r s4 h4 => ?_) fun _ _ x => (hxe _ _ x).elim)))
    obtain ⟨u, hr, h4⟩ := h4
    subst hr
    refine wpAny_bind (wpAny_mono h4 (fun _ s5 h5 => ?_) fun _ _ x => (hxe _ _ x).elim)
    obtain ⟨x, H5, I5, r5, y5, st5, fr5⟩ := h5
    have I5' := I5.pinned (stat fr5) (T.obj _ _ st5)
    refine wpAny_bind (wpAny_mono (hg _ s5 σ' H5 x u _ I5' r5 (step x H5 y5)) (fun _ s6 h6 => ?_) fun _ _ x => (hxe _ _ x).elim)
    obtain ⟨σ6, H6, I6, q6⟩ := h6
    have again : ∀ {σ7 : St} {H7 : Hp} {s7 : Shared}, Inv X (pins ++ pinsAt fp s5.heap) σ7 H7 s7 → (∃ m', m' < n ∧ W (i + 1) m' σ7 H7) →
        ∃ m, m < n ∧ ∃ i σ' H', Inv X pins σ' H' s7 ∧ tn i s7.heap ∧ (∀ b ∈ fp, H' b = none) ∧ W i m σ' H' := fun {σ7 H7 s7} I7 n7 => by
      obtain ⟨m', hm, w7⟩ := n7
      refine ⟨m', hm, i + 1, σ7, H7, I7.unpinned, T.keep _ _ _ st5 fun b hb o e => (I7.pin (b, o) (List.mem_append_right _ (List.mem_append_right _ (mem_pinsAt hb e)))).1, fun b hb => ?_, w7⟩
      obtain ⟨o, e, d⟩ := T.obj _ _ st5 b hb
      exact (I7.pin (b, o) (List.mem_append_right _ (List.mem_append_right _ (mem_pinsAt hb e)))).2.1
    refine wpAny_bind (wpAny_mono (ht _ s6 σ6 H6 _ I6 q6) (fun ok s7 h7 => ?_) fun _ _ x => (hxe _ _ x).elim)
    obtain ⟨H7, I7, q7⟩ := h7
    cases ok with
    | false =>
      rw [if_neg Bool.false_ne_true] at q7
      exact wpAny_pure ⟨rfl, again I7 q7⟩
    | true =>
      rw [if_pos rfl] at q7
      refine wpAny_bind (wpAny_mono (hb _ s7 σ6 H7 _ I7 q7) (fun y s8 h8 => ?_) fun _ _ x => (hxe _ _ x).elim)
      obtain ⟨σ8, H8, I8, w8⟩ := h8
      exact wpAny_pure ⟨rfl, again I8 w8⟩
end L2
set_option Elab.async false
set_option linter.all false
set_option maxRecDepth 100000
set_option maxHeartbeats 1000000
namespace L2
open PySem PySem.Spec PyProof.Rows
theorem entry_itemiter_iter : entryFor table "dict_itemiterator.__iter__" = some Builtin.«dict_keyiterator.__iter__» :=
  entryFor_alias (id' := "dict_keyiterator.__iter__") (by kernel_rfl) rfl (by decide +kernel) (by kernel_rfl)
end L2
set_option Elab.async false
set_option linter.all false
set_option maxRecDepth 100000
set_option maxHeartbeats 4000000
namespace L2
open PySem PySem.Builtin PySem.Builtin.ObjectAttr PySem.Spec PyProof.Rows
end L2
set_option Elab.async false
set_option linter.all false
set_option maxRecDepth 100000
set_option maxHeartbeats 4000000
namespace L2
open PySem PySem.Spec PyProof.Rows
end L2
set_option Elab.async false
set_option linter.all false
set_option maxRecDepth 100000
set_option maxHeartbeats 4000000
namespace L2
open PySem PySem.Spec PyProof.Rows
end L2
set_option Elab.async false
set_option linter.all false
set_option maxRecDepth 100000
set_option maxHeartbeats 4000000
namespace L2
open PySem PySem.Spec PyProof.Rows
end L2
set_option Elab.async false
set_option linter.all false
set_option maxRecDepth 100000
set_option maxHeartbeats 4000000
namespace L2
open PySem PySem.Spec PyProof.Rows
end L2
set_option Elab.async false
set_option linter.all false
set_option maxRecDepth 100000
set_option maxHeartbeats 4000000
namespace L2
open PySem PySem.Spec PyProof.Rows
end L2
set_option Elab.async false
set_option linter.all false
set_option maxRecDepth 100000
set_option maxHeartbeats 4000000
namespace L2
open PySem PySem.Spec PyProof.Rows
end L2
namespace L2
end L2
set_option Elab.async false
set_option linter.all false
set_option maxRecDepth 100000
set_option maxHeartbeats 4000000
namespace My
open PySem L2 MA
end My
namespace L2
end L2
namespace My
open PySem L2 MA
end My
namespace My
open PySem L2 MA
end My
set_option Elab.async false
set_option linter.all false
set_option maxRecDepth 100000
set_option maxHeartbeats 4000000
namespace L2
open PySem PySem.Spec PyProof.Rows
end L2
namespace My
open PySem L2 MA
theorem same_updN {H H' : Hp} {l : Addr} (hl : H l = none) (s : Same H H') (o : HO) : Same H (upd H' l o) := fun b u q => by rw [upd_ne (ne_of_none q hl)]; exact s _ _ q
theorem ixN_nat {n j : Nat} (h : j < n) : ixN n ((j : Nat) : Int) = some j := by
  unfold ixN
  rw [if_pos (by omega), if_pos (by omega)]
  simp
theorem atI_iv {ns : List Int} {j : Nat} {x : Int} (h : ns[j]? = some x) : atI (iv ns) ((j : Nat) : Int) = some (.int x) := atI_nat (by rw [List.getElem?_map, h]; rfl)
theorem iv_set (ns : List Int) (j : Nat) (y : Int) : (iv ns).set j (.int y) = iv (ns.set j y) := by show (ns.map V.int).set j (.int y) = (ns.set j y).map V.int; rw [List.map_set]
end My
namespace My
open PySem L2 MA
end My
set_option Elab.async false
set_option linter.all false
set_option maxRecDepth 100000
set_option maxHeartbeats 4000000
namespace L2
open PySem PySem.Spec PyProof.Rows
theorem comp_zipP {K : PySem.W.Frag} {b1 b2 : Bool} {a b : Addr} {xs ys : List V} {te : TE} {H : Hp} {R : Addr → Hp → Prop} {fs : St} (Pv : Addr → Nat → List V → Hp → Prop) (hz : xs.length ≤ 10000) (hxy : xs.length = ys.length) (hp0 : ∀ p, H p = none → Pv p 0 [] (upd H p (.lst [])))
    (hl : ∀ p i zs H', H p = none → Pv p i zs H' → H' a = some (hoB b1 xs) ∧ H' b = some (hoB b2 ys))
    (hte : ∀ p i zs H' x y t, H p = none → xs[i]? = some x → ys[i]? = some y → Pv p i zs H' → H' p = some (.lst zs) → H' t = none → ∀ Q' : VK, (∀ v H'', H'' p = some (.lst zs) → Pv p (i + 1) (zs ++ [v]) (upd H'' p (.lst (zs ++ [v]))) → Q' v H'') → te (some x :: some y :: fs) (upd H' t (.tup [x, y])) Q')
    (q : ∀ p zs H', H p = none → Pv p xs.length zs H' → H' p = some (.lst zs) → zs.length = xs.length → R p H') :
    ∀ p, H p = none → ∃ W : Nat → Nat → List V → St → Hp → Prop, (∃ m, W 0 m [] (none :: none :: fs) (upd H p (.lst []))) ∧ ∀ i m zs σ' H', W i m zs σ' H' →
      ((ItzB K b1 b2 a b).stop i H' ∧ R p H') ∨ ((ItzB K b1 b2 a b).go i H' ∧ ∀ x H2, (ItzB K b1 b2 a b).yld i H' x H2 → gTup0 2 (gCons (gName 0) (gCons (gName 1) gNil)) x σ' H2 fun σ2 H3 => tTT σ2 H3 fun b H4 => if b = true then te σ2 H4 fun v H5 => zs.length < sizeLine ∧ H5 p = some (.lst zs) ∧ (∃ m', m' < m ∧ W (i + 1) m' (zs ++ [v]) σ2 (upd H5 p (.lst (zs ++ [v]))))
        else ∃ m', m' < m ∧ W (i + 1) m' zs σ2 H4) := by
  intro p hp
  refine ⟨fun i m zs σ' H' => m = xs.length - i ∧ i ≤ xs.length ∧ zs.length = i ∧ Pv p i zs H' ∧ H' p = some (.lst zs) ∧ ∃ o1 o2, σ' = o1 :: o2 :: fs, ⟨xs.length, by simp, Nat.zero_le _, rfl, hp0 p hp, upd_same, _, _, rfl⟩, ?_⟩
  rintro i m zs σ' H' ⟨rfl, hi, hzl, pv, hp', o1, o2, rfl⟩
  obtain ⟨ha', hb'⟩ := hl p i zs H' hp pv
  by_cases hlt : i < xs.length
  · have h2 : i < ys.length := by omega
    refine .inr ⟨⟨xs, ys, xs[i], ys[i], SqB.of ha', SqB.of hb', List.getElem?_eq_getElem hlt, List.getElem?_eq_getElem h2⟩, fun x H2 hy => ?_⟩
    obtain ⟨r, x, y, rfl, hr, rfl, hxy'⟩ := hy
    obtain ⟨hx, hy⟩ := hxy' xs ys (SqB.of ha') (SqB.of hb')
    refine ⟨r, _, rfl, upd_same, rfl, _, _, rfl, _, _, rfl, rfl, ?_⟩
    change te (some x :: some y :: fs) _ _
    refine hte p i zs H' x y r hp hx hy pv hp' hr _ fun v H5 h5 pv5 => ⟨?_, h5, xs.length - (i + 1), by omega, rfl, hlt, by simp [hzl], pv5, upd_same, _, _, rfl⟩
    rw [hzl, sizeLine_eq]; omega
  · have e : i = xs.length := by omega
    subst e
    exact .inl ⟨⟨xs, ys, SqB.of ha', SqB.of hb', .inl (Nat.le_refl _)⟩, q p zs H' hp pv hp' hzl⟩
end L2
namespace My
open PySem L2 MA
end My
set_option Elab.async false
set_option linter.all false
set_option maxRecDepth 100000
set_option maxHeartbeats 4000000
namespace L2
open PySem PySem.Spec PyProof.Rows
noncomputable def ZipAt (h : Heap) (z TI TO : Addr) : Prop := ∃ f0 f1, (f0 = .none ∨ ∃ i : Int, f0 = rawInt i) ∧ h.get? z = some { cls := .type "zip", dict := none, data := .fields #[f0, f1, .bool false, .ref TI, .ref TO], slots := #[] }
noncomputable def ZipE (h : Heap) (z TI TO : Addr) : Prop := ∃ f0 f1, h.get? z = some { cls := .type "zip", dict := none, data := .fields #[f0, f1, .bool false, .ref TI, .ref TO], slots := #[] }
theorem ZipAt.e {h : Heap} {z TI TO : Addr} (x : ZipAt h z TI TO) : ZipE h z TI TO := let ⟨a, b, _, c⟩ := x; ⟨a, b, c⟩
theorem ZipE.at {h h' : Heap} {z TI TO : Addr} (x : ZipE h z TI TO) (k : ∀ o, h.get? z = some o → h'.get? z = some o) : ZipE h' z TI TO := let ⟨a, b, c⟩ := x; ⟨a, b, k _ c⟩
theorem ZipAt.at {h h' : Heap} {z TI TO : Addr} (x : ZipAt h z TI TO) (k : ∀ o, h.get? z = some o → h'.get? z = some o) : ZipAt h' z TI TO := let ⟨a, b, d, c⟩ := x; ⟨a, b, d, k _ c⟩
section
variable {prog : Program} {w : World} {A : Around} {E : Value → Shared → Prop} {s : Shared}
theorem zip_free {z TI TO : Addr} {Q : Bool → Shared → Prop} (hz : ZipAt s.heap z TI TO) (h : ∀ b h', ZipAt h' z TI TO → Heap.SameBut z s.heap h' → Q b { s with heap := h' }) : wpAny (model prog w) A (Builtin.SmallTypes.ownedTupleIsFree (.ref z)) Q E s := by
  obtain ⟨f0, f1, hf, hz⟩ := hz
  unfold Builtin.SmallTypes.ownedTupleIsFree
  refine wpAny_bind (wpAny_field hz rfl (x := f0) rfl ?_)
  have same : Heap.SameBut z s.heap s.heap := ⟨rfl, fun _ _ => rfl⟩
  rcases hf with rfl | ⟨i, rfl⟩
  · exact wpAny_pure (h _ _ ⟨_, _, .inl rfl, hz⟩ same)
  · show wpAny _ _ (loadIfAlive i.toNat >>= _) _ _ s
    refine wpAny_bind ?_
    have al : ∀ {Q : Option Obj → Shared → Prop}, Q (s.heap.get? i.toNat) s → wpAny (model prog w) A (loadIfAlive i.toNat) Q E s := fun hQ _ _ _ => hQ
    refine al ?_
    cases e : s.heap.get? i.toNat with
    | none => exact wpAny_pure (h _ _ ⟨_, _, .inr ⟨i, rfl⟩, hz⟩ same)
    | some o =>
      show wpAny _ _ (field (.ref z) 1 >>= _) _ _ s
      refine wpAny_bind (wpAny_field hz rfl (x := f1) rfl ?_)
      by_cases e1 : (f1 != Value.bool true) = true
      · rw [if_pos e1]
        exact wpAny_bind (wpAny_setField_rec hz (by simp) fun g1 z1 s1 => wpAny_pure (h _ g1 ⟨_, _, .inr ⟨i, rfl⟩, z1⟩ s1))
      · rw [if_neg e1]
        exact wpAny_pure (h _ _ ⟨_, _, .inr ⟨i, rfl⟩, hz⟩ same)
theorem zip_set {z TI TO : Addr} {k : Nat} {v : Value} {Q : Unit → Shared → Prop} (hz : ZipE s.heap z TI TO) (hk : k = 0 ∨ k = 1) (h : ∀ h', ZipE h' z TI TO → Heap.SameBut z s.heap h' → Q () { s with heap := h' }) : wpAny (model prog w) A (setField (.ref z) k v) Q E s := by
  obtain ⟨f0, f1, hz⟩ := hz
  rcases hk with rfl | rfl
  · exact wpAny_setField_rec hz (by simp) fun g1 z1 s1 => h g1 ⟨_, _, z1⟩ s1
  · exact wpAny_setField_rec hz (by simp) fun g1 z1 s1 => h g1 ⟨_, _, z1⟩ s1
theorem zipW_item {z TI TO i1 i2 l1 l2 : Addr} {b1 b2 : Bool} {k : Nat} {xs ys : Array Value} {x y u v : Value} {Q : Value → Shared → Prop} (D : ZipApart z TI TO i1 i2 l1 l2)
    (hz : ZipAt s.heap z TI TO) (p1 : IsPair s.heap TI (.ref i1) (.ref i2)) (p2 : IsPair s.heap TO u v) (j1 : IterB s.heap b1 i1 l1 k) (j2 : IterB s.heap b2 i2 l2 k) (q1 : IsB s.heap b1 l1 xs) (q2 : IsB s.heap b2 l2 ys) (hx : xs[k]? = some x) (hy : ys[k]? = some y)
    (K : ∀ h', ZipAt h' z TI TO → (∃ u v, IsPair h' TO u v) → IterB h' b1 i1 l1 (k + 1) → IterB h' b2 i2 l2 (k + 1) → IsPair h' s.heap.objs.size x y → h'.objs.size = s.heap.objs.size + 1 →
      (∀ c o, c ≠ z → c ≠ TO → c ≠ i1 → c ≠ i2 → s.heap.get? c = some o → h'.get? c = some o) → Q (.ref s.heap.objs.size) { s with heap := h' }) :
    wpAny (model prog w) A (Builtin.«zip.__next__» ⟨[.ref z], []⟩) (fun fin s' => ∃ v, fin = .done (.ret v) ∧ Q v s') E s := by
  obtain ⟨f0, f1, hf, hz0⟩ := id hz
  refine wpAny_bind (m := field (.ref z) 2) (wpAny_field hz0 rfl (x := .bool false) rfl (wpAny_bind (m := field (.ref z) 3) (wpAny_field hz0 rfl (x := .ref TI) rfl (wpAny_bind (wpAny_seqItems p1 rfl (wpAny_bind (m := Builtin.SmallTypes.ownedTupleIsFree (.ref z)) ?_))))))
  refine zip_free hz fun fr g0 z0 s0 => ?_
  replace p1 : IsPair g0 TI (.ref i1) (.ref i2) := s0.extBut _ _ D.TIz p1
  replace p2 : IsPair g0 TO u v := s0.extBut _ _ D.TOz p2
  replace j1 : IterB g0 b1 i1 l1 k := j1.at fun o e => (s0.2 _ D.i1z).trans e
  replace j2 : IterB g0 b2 i2 l2 k := j2.at fun o e => (s0.2 _ D.i2z).trans e
  replace q1 : IsB g0 b1 l1 xs := q1.at fun o e => (s0.2 _ D.l1z).trans e
  replace q2 : IsB g0 b2 l2 ys := q2.at fun o e => (s0.2 _ D.l2z).trans e
  cases fr with
  | true =>
    obtain ⟨f0', f1', hf', hz'⟩ := id z0
    simp only [if_true]
    refine wpAny_bind (wpAny_rule (wpAny_bind (wpAny_field hz' rfl (x := .ref TO) rfl (wpAny_bind (zip_set z0.e (.inl rfl) fun g1 z1 s1 => ?_)))))
    refine wpAny_bind ?_
    simp only [List.zipIdx_cons, List.forIn_cons, List.zipIdx_nil, List.forIn_nil]
    refine wpAny_bind (wpAny_bind (wpAny_onRaise (wpAny_bind (m := Builtin.SmallTypes.nextOf (.ref i1)) (nxtB_item (j1.at fun o e => (s1.2 _ D.i1z).trans e) (q1.at fun o e => (s1.2 _ D.l1z).trans e) hx fun g2 j1' s2 => wpAny_pure ?_))))
    have t2 : IsPair g2 TO u v := s2.extBut _ _ D.TOi1 (s1.extBut _ _ D.TOz p2)
    refine wpAny_bind (wpAny_seqItems t2 rfl (wpAny_bind (wpAny_updateSeq_pair t2 fun g3 t3 s3 => wpAny_bind (wpAny_letGo (wpAny_pure ?_)))))
    replace t3 : IsPair g3 TO x v := t3
    refine wpAny_bind (wpAny_bind (wpAny_onRaise (wpAny_bind (m := Builtin.SmallTypes.nextOf (.ref i2)) (nxtB_item (((j2.at fun o e => (s1.2 _ D.i2z).trans e).at fun o e => (s2.2 _ D.i12.symm).trans e).at fun o e => (s3.2 _ D.TOi2.symm).trans e)
      (((q2.at fun o e => (s1.2 _ D.l2z).trans e).at fun o e => (s2.2 _ D.l2i1).trans e).at fun o e => (s3.2 _ D.l2TO).trans e) hy fun g4 j2' s4 => wpAny_pure ?_))))
    have t4 : IsPair g4 TO x v := s4.extBut _ _ D.TOi2 t3
    refine wpAny_bind (wpAny_seqItems t4 rfl (wpAny_bind (wpAny_updateSeq_pair t4 fun g5 t5 s5 => wpAny_bind (wpAny_letGo (wpAny_pure (wpAny_pure ?_))))))
    replace t5 : IsPair g5 TO x y := t5
    refine wpAny_bind (wpAny_seqItems t5 rfl (wpAny_bind (wpAny_newTuple (wpAny_bind (m := Builtin.SmallTypes.ownedTupleHandOut (.ref z) (.ref g5.objs.size)) ?_))))
    have sz : g5.objs.size = s.heap.objs.size := by rw [s5.1, s4.1, s3.1, s2.1, s1.1, s0.1]
    have z5 : ZipE g5 z TI TO := (((z1.at fun o e => s2.extBut _ _ D.i1z.symm e).at fun o e => s3.extBut _ _ D.TOz.symm e).at fun o e => s4.extBut _ _ D.i2z.symm e).at fun o e => s5.extBut _ _ D.TOz.symm e
    have k5 : ∀ c o, c ≠ z → c ≠ TO → c ≠ i1 → c ≠ i2 → s.heap.get? c = some o → g5.get? c = some o := fun c o c1 c2 c3 c4 e => s5.extBut _ _ c2 (s4.extBut _ _ c4 (s3.extBut _ _ c2 (s2.extBut _ _ c3 (s1.extBut _ _ c1 (s0.extBut _ _ c1 e)))))
    have zl : z < g5.objs.size := let ⟨_, _, e⟩ := z5; Heap.lt_size e
    unfold Builtin.SmallTypes.ownedTupleHandOut
    obtain ⟨a0, a1, z6⟩ : ZipE (g5.push { cls := .type "tuple", data := .seq #[x, y] }) z TI TO := z5.at fun o e => Heap.get?_push_of_some _ e
    refine wpAny_bind (wpAny_setField_rec z6 (by simp) fun g7 z7 s7 => ?_)
    refine wpAny_setField_rec z7 (by simp) fun g8 z8 s8 => ?_
    have up : ∀ c o, c ≠ z → g5.get? c = some o → g8.get? c = some o := fun c o c1 e => s8.extBut _ _ c1 (s7.extBut _ _ c1 (Heap.get?_push_of_some _ e))
    have T8 : IsPair g8 g5.objs.size x y := s8.extBut _ _ (Nat.ne_of_gt zl) (s7.extBut _ _ (Nat.ne_of_gt zl) (Heap.get?_push_size _ rfl))
    have sz8 : g8.objs.size = s.heap.objs.size + 1 := by rw [s8.1, s7.1, Heap.size_push, sz]
    rw [sz] at T8
    refine wpAny_pure ⟨_, rfl, ?_⟩
    show Q (.ref g5.objs.size) _
    rw [sz]
    refine K g8 ⟨_, _, .inr ⟨_, rfl⟩, z8⟩ ⟨_, _, up _ _ D.TOz t5⟩ ?_ ?_ T8 sz8 fun c o c1 c2 c3 c4 e => up c o c1 (k5 c o c1 c2 c3 c4 e)
    · exact (((j1'.at fun o e => (s3.2 _ D.TOi1.symm).trans e).at fun o e => (s4.2 _ D.i12).trans e).at fun o e => (s5.2 _ D.TOi1.symm).trans e).at fun o e => up _ o D.i1z e
    · exact (j2'.at fun o e => (s5.2 _ D.TOi2.symm).trans e).at fun o e => up _ o D.i2z e
  | false =>
    simp only [Bool.false_eq_true, if_false]
    refine wpAny_bind ?_
    simp only [List.forIn_toArray, List.forIn_cons, List.forIn_nil]
    refine wpAny_bind (wpAny_bind (wpAny_holding (wpAny_bind (m := Builtin.SmallTypes.nextOf (.ref i1)) (nxtB_item j1 q1 hx fun g2 j1' s2 => wpAny_pure ?_))))
    refine wpAny_pure ?_
    refine wpAny_bind (wpAny_bind (wpAny_holding (wpAny_bind (m := Builtin.SmallTypes.nextOf (.ref i2)) (nxtB_item (j2.at fun o e => (s2.2 _ D.i12.symm).trans e) (q2.at fun o e => (s2.2 _ D.l2i1).trans e) hy fun g4 j2' s4 => wpAny_pure ?_))))
    refine wpAny_pure (wpAny_pure ?_)
    refine wpAny_bind (wpAny_newTuple (hsz := (by show 2 ≤ sizeLine; decide)) ?_)
    have sz : g4.objs.size = s.heap.objs.size := by rw [s4.1, s2.1, s0.1]
    refine wpAny_pure ⟨_, rfl, ?_⟩
    show Q (.ref g4.objs.size) _
    have up : ∀ c o, g4.get? c = some o → (g4.push { cls := .type "tuple", data := .seq #[x, y] }).get? c = some o := fun c o e => Heap.get?_push_of_some _ e
    have T8 : IsPair (g4.push { cls := .type "tuple", data := .seq #[x, y] }) g4.objs.size x y := Heap.get?_push_size _ rfl
    rw [sz] at T8
    rw [sz]
    refine K _ (z0.at fun o e => up _ _ (s4.extBut _ _ D.i2z.symm (s2.extBut _ _ D.i1z.symm e))) ⟨_, _, up _ _ (s4.extBut _ _ D.TOi2 (s2.extBut _ _ D.TOi1 p2))⟩ ?_ ?_ T8 (by rw [Heap.size_push, sz]) fun c o c1 c2 c3 c4 e => up c o (s4.extBut _ _ c4 (s2.extBut _ _ c3 (s0.extBut _ _ c1 e)))
    · exact j1'.at fun o e => up _ _ ((s4.2 _ D.i12).trans e)
    · exact j2'.at fun o e => up _ _ e
theorem zipW_end {z TI TO i1 i2 l1 l2 : Addr} {b1 b2 : Bool} {k : Nat} {xs ys : Array Value} {u v : Value} {Q : Fin → Shared → Prop} (hh : A.handled = none) (D : ZipApart z TI TO i1 i2 l1 l2)
    (hz : ZipAt s.heap z TI TO) (p1 : IsPair s.heap TI (.ref i1) (.ref i2)) (p2 : IsPair s.heap TO u v) (j1 : IterB s.heap b1 i1 l1 k) (j2 : IterB s.heap b2 i2 l2 k) (q1 : IsB s.heap b1 l1 xs) (q2 : IsB s.heap b2 l2 ys) (hend : xs[k]? = none ∨ ys[k]? = none)
    (K : ∀ h' e, (∀ c o, c ≠ z → c ≠ TO → c ≠ i1 → c ≠ i2 → s.heap.get? c = some o → h'.get? c = some o) → (∃ o, h'.get? e = some o ∧ o.cls = .type "StopIteration") → E (.ref e) { s with heap := h' }) :
    wpAny (model prog w) A (Builtin.«zip.__next__» ⟨[.ref z], []⟩) Q E s := by
  obtain ⟨f0, f1, hf, hz0⟩ := id hz
  refine wpAny_bind (m := field (.ref z) 2) (wpAny_field hz0 rfl (x := .bool false) rfl (wpAny_bind (m := field (.ref z) 3) (wpAny_field hz0 rfl (x := .ref TI) rfl (wpAny_bind (wpAny_seqItems p1 rfl (wpAny_bind (m := Builtin.SmallTypes.ownedTupleIsFree (.ref z)) ?_))))))
  refine zip_free hz fun fr g0 z0 s0 => ?_
  replace p1 : IsPair g0 TI (.ref i1) (.ref i2) := s0.extBut _ _ D.TIz p1
  replace p2 : IsPair g0 TO u v := s0.extBut _ _ D.TOz p2
  replace j1 : IterB g0 b1 i1 l1 k := j1.at fun o e => (s0.2 _ D.i1z).trans e
  replace j2 : IterB g0 b2 i2 l2 k := j2.at fun o e => (s0.2 _ D.i2z).trans e
  replace q1 : IsB g0 b1 l1 xs := q1.at fun o e => (s0.2 _ D.l1z).trans e
  replace q2 : IsB g0 b2 l2 ys := q2.at fun o e => (s0.2 _ D.l2z).trans e
  have ne : ∀ {g : Heap} {e : Addr} {oe : Obj}, ZipE g z TI TO → g.get? e = some oe → oe.cls = .type "StopIteration" → e ≠ z := fun ⟨_, _, z2⟩ hoe hce q => by
    subst q; rw [z2] at hoe; cases hoe; simp at hce
  cases fr with
  | true =>
    obtain ⟨f0', f1', hf', hz'⟩ := id z0
    simp only [if_true]
    refine wpAny_bind (wpAny_rule (wpAny_bind (wpAny_field hz' rfl (x := .ref TO) rfl (wpAny_bind (zip_set z0.e (.inl rfl) fun g1 z1 s1 => ?_)))))
    refine wpAny_bind ?_
    simp only [List.zipIdx_cons, List.forIn_cons, List.zipIdx_nil, List.forIn_nil]
    refine wpAny_bind (wpAny_bind (wpAny_onRaise (wpAny_bind (m := Builtin.SmallTypes.nextOf (.ref i1)) ?_)))
    cases hx : xs[k]? with
    | none =>
      refine nxtB_end hh (j1.at fun o e => (s1.2 _ D.i1z).trans e) (q1.at fun o e => (s1.2 _ D.l1z).trans e) hx fun g2 e s2 ⟨oe, hoe, hce⟩ => ?_
      have z2 : ZipE g2 z TI TO := z1.at fun o q => s2 _ _ D.i1z.symm q
      have hez := ne z2 hoe hce
      exact zip_set z2 (.inl rfl) fun g3 _ s3 => K g3 e (fun c o c1 _ c3 _ q => s3.extBut _ _ c1 (s2 _ _ c3 (s1.extBut _ _ c1 (s0.extBut _ _ c1 q)))) ⟨oe, s3.extBut _ _ hez hoe, hce⟩
    | some x =>
      have hy : ys[k]? = none := by
        rcases hend with h | h
        · rw [hx] at h; cases h
        · exact h
      refine nxtB_item (j1.at fun o e => (s1.2 _ D.i1z).trans e) (q1.at fun o e => (s1.2 _ D.l1z).trans e) hx fun g2 j1' s2 => wpAny_pure ?_
      have t2 : IsPair g2 TO u v := s2.extBut _ _ D.TOi1 (s1.extBut _ _ D.TOz p2)
      refine wpAny_bind (wpAny_seqItems t2 rfl (wpAny_bind (wpAny_updateSeq_pair t2 fun g3 t3 s3 => wpAny_bind (wpAny_letGo (wpAny_pure ?_)))))
      refine wpAny_bind (wpAny_bind (wpAny_onRaise (wpAny_bind (m := Builtin.SmallTypes.nextOf (.ref i2)) (nxtB_end hh (((j2.at fun o e => (s1.2 _ D.i2z).trans e).at fun o e => (s2.2 _ D.i12.symm).trans e).at fun o e => (s3.2 _ D.TOi2.symm).trans e)
        (((q2.at fun o e => (s1.2 _ D.l2z).trans e).at fun o e => (s2.2 _ D.l2i1).trans e).at fun o e => (s3.2 _ D.l2TO).trans e) hy fun g4 e s4 ⟨oe, hoe, hce⟩ => ?_))))
      have z4 : ZipE g4 z TI TO := ((z1.at fun o q => s2.extBut _ _ D.i1z.symm q).at fun o q => s3.extBut _ _ D.TOz.symm q).at fun o q => s4 _ _ D.i2z.symm q
      have hez := ne z4 hoe hce
      exact zip_set z4 (.inl rfl) fun g5 _ s5 => K g5 e (fun c o c1 c2 c3 c4 q => s5.extBut _ _ c1 (s4 _ _ c4 (s3.extBut _ _ c2 (s2.extBut _ _ c3 (s1.extBut _ _ c1 (s0.extBut _ _ c1 q)))))) ⟨oe, s5.extBut _ _ hez hoe, hce⟩
  | false =>
    simp only [Bool.false_eq_true, if_false]
    refine wpAny_bind ?_
    simp only [List.forIn_toArray, List.forIn_cons, List.forIn_nil]
    refine wpAny_bind (wpAny_bind (wpAny_holding (wpAny_bind (m := Builtin.SmallTypes.nextOf (.ref i1)) ?_)))
    cases hx : xs[k]? with
    | none => exact nxtB_end hh j1 q1 hx fun g2 e s2 he => K g2 e (fun c o c1 _ c3 _ q => s2 _ _ c3 (s0.extBut _ _ c1 q)) he
    | some x =>
      have hy : ys[k]? = none := by
        rcases hend with h | h
        · rw [hx] at h; cases h
        · exact h
      refine nxtB_item j1 q1 hx fun g2 j1' s2 => wpAny_pure (wpAny_pure ?_)
      refine wpAny_bind (wpAny_bind (wpAny_holding (wpAny_bind (m := Builtin.SmallTypes.nextOf (.ref i2)) (nxtB_end hh (j2.at fun o e => (s2.2 _ D.i12.symm).trans e) (q2.at fun o e => (s2.2 _ D.l2i1).trans e) hy fun g4 e s4 he => ?_))))
      exact K g4 e (fun c o c1 _ c3 c4 q => s4 _ _ c4 (s2.extBut _ _ c3 (s0.extBut _ _ c1 q))) he
theorem nxtZ_item {z TI TO i1 i2 l1 l2 : Addr} {b1 b2 : Bool} {k : Nat} {xs ys : Array Value} {x y u v : Value} {Q : Value → Shared → Prop} (D : ZipApart z TI TO i1 i2 l1 l2)
    (hz : ZipAt s.heap z TI TO) (p1 : IsPair s.heap TI (.ref i1) (.ref i2)) (p2 : IsPair s.heap TO u v) (j1 : IterB s.heap b1 i1 l1 k) (j2 : IterB s.heap b2 i2 l2 k) (q1 : IsB s.heap b1 l1 xs) (q2 : IsB s.heap b2 l2 ys) (hx : xs[k]? = some x) (hy : ys[k]? = some y)
    (K : ∀ h', ZipAt h' z TI TO → (∃ u v, IsPair h' TO u v) → IterB h' b1 i1 l1 (k + 1) → IterB h' b2 i2 l2 (k + 1) → IsPair h' s.heap.objs.size x y → h'.objs.size = s.heap.objs.size + 1 →
      (∀ c o, c ≠ z → c ≠ TO → c ≠ i1 → c ≠ i2 → s.heap.get? c = some o → h'.get? c = some o) → Q (.ref s.heap.objs.size) { s with heap := h' }) :
    wpAny (model prog w) A (Builtin.SmallTypes.nextOf (.ref z)) Q E s := by
  have T : s.TypeIs (.ref z) "zip" := let ⟨_, _, _, e⟩ := hz; ⟨_, e, rfl⟩
  unfold Builtin.SmallTypes.nextOf
  exact wpAny_bind (wpAny_callSpecial?_slot (name := Str.ofString "__next__") T F.slot_zip_next (wpAny_call_entry F.slot_zip_next T F.entry_zip_next
    (zipW_item D hz p1 p2 j1 j2 q1 q2 hx hy fun h' a1 a2 a3 a4 a5 a6 a7 => wpAny_pure (K h' a1 a2 a3 a4 a5 a6 a7)) (F.args_zip_next_1 _)))
theorem nxtZ_end {z TI TO i1 i2 l1 l2 : Addr} {b1 b2 : Bool} {k : Nat} {xs ys : Array Value} {u v : Value} {Q : Value → Shared → Prop} (hh : A.handled = none) (D : ZipApart z TI TO i1 i2 l1 l2)
    (hz : ZipAt s.heap z TI TO) (p1 : IsPair s.heap TI (.ref i1) (.ref i2)) (p2 : IsPair s.heap TO u v) (j1 : IterB s.heap b1 i1 l1 k) (j2 : IterB s.heap b2 i2 l2 k) (q1 : IsB s.heap b1 l1 xs) (q2 : IsB s.heap b2 l2 ys) (hend : xs[k]? = none ∨ ys[k]? = none)
    (K : ∀ h' e, (∀ c o, c ≠ z → c ≠ TO → c ≠ i1 → c ≠ i2 → s.heap.get? c = some o → h'.get? c = some o) → (∃ o, h'.get? e = some o ∧ o.cls = .type "StopIteration") → E (.ref e) { s with heap := h' }) :
    wpAny (model prog w) A (Builtin.SmallTypes.nextOf (.ref z)) Q E s := by
  have T : s.TypeIs (.ref z) "zip" := let ⟨_, _, _, e⟩ := hz; ⟨_, e, rfl⟩
  unfold Builtin.SmallTypes.nextOf
  exact wpAny_bind (wpAny_callSpecial?_slot (name := Str.ofString "__next__") T F.slot_zip_next (wpAny_call_entry F.slot_zip_next T F.entry_zip_next
    (zipW_end hh D hz p1 p2 j1 j2 q1 q2 hend K) (F.args_zip_next_1 _)))
end
end L2
set_option Elab.async false
set_option linter.all false
set_option maxRecDepth 100000
set_option maxHeartbeats 4000000
namespace L2
open PySem PySem.Spec PyProof.Rows
section
variable {prog : Program} {w : World} {A : Around} {E : Value → Shared → Prop} {s : Shared}
theorem enumZ_next {e z TI TO i1 i2 l1 l2 : Addr} {b1 b2 : Bool} {k : Nat} {i : Int} {xs ys : Array Value} {x y u v old : Value} {Q : Value → Shared → Prop} (D : ZipApart z TI TO i1 i2 l1 l2) (De : e ∉ [z, TI, TO, i1, i2])
    (he : IsEnum s.heap e z i old) (hz : ZipAt s.heap z TI TO) (p1 : IsPair s.heap TI (.ref i1) (.ref i2)) (p2 : IsPair s.heap TO u v) (j1 : IterB s.heap b1 i1 l1 k) (j2 : IterB s.heap b2 i2 l2 k) (q1 : IsB s.heap b1 l1 xs) (q2 : IsB s.heap b2 l2 ys) (hx : xs[k]? = some x) (hy : ys[k]? = some y)
    (K : ∀ h' tk, IsEnumOut h' e z (i + 1) (.ref s.heap.objs.size) (s.heap.objs.size + 1) → ZipAt h' z TI TO → (∃ u v, IsPair h' TO u v) → IterB h' b1 i1 l1 (k + 1) → IterB h' b2 i2 l2 (k + 1) → IsPair h' s.heap.objs.size x y →
      IsPair h' (s.heap.objs.size + 1) (.int i tk) (.ref s.heap.objs.size) → (∀ c o, c ≠ e → c ≠ z → c ≠ TO → c ≠ i1 → c ≠ i2 → s.heap.get? c = some o → h'.get? c = some o) → Q (.ref (s.heap.objs.size + 1)) { s with heap := h', toks := tk + 1 }) :
    wpAny (model prog w) A (Builtin.«enumerate.__next__» ⟨[.ref e], []⟩) (fun fin s' => ∃ v, fin = .done (.ret v) ∧ Q v s') E s := by
  simp only [List.mem_cons, List.not_mem_nil, or_false, not_or] at De
  obtain ⟨n1, n2, n3, n4, n5⟩ := De
  obtain ⟨hp, g, d, tk, os⟩ := s
  refine wpAny_bind (m := field (.ref e) 2) (wpAny_field he rfl (x := .ref z) rfl ?_)
  refine wpAny_bind (nxtZ_item D hz p1 p2 j1 j2 q1 q2 hx hy fun h1 z1 t1 a1 a2 P1 sz1 k1 => ?_)
  dsimp only at P1 sz1 k1 K
  have e1 : IsEnum h1 e z i old := k1 e _ n1 n3 n4 n5 he
  have el : e < hp.objs.size := Heap.lt_size he
  refine wpAny_bind (m := field (.ref e) 3) (wpAny_field e1 rfl (x := rawInt i) rfl ?_)
  refine wpAny_bind (m := field (.ref e) 4) (wpAny_field e1 rfl (x := .none) rfl ?_)
  refine wpAny_bind (m := mkInt i) (wpAny_mkInt ?_)
  refine wpAny_bind (m := setField (.ref e) 3 (rawInt (i + 1))) (wpAny_setField_rec e1 (by simp) fun h2 e2 s2 => ?_)
  replace e2 : IsEnum h2 e z (i + 1) old := e2
  refine wpAny_bind (m := setField (.ref e) 4 .none) (wpAny_setField_rec e2 (by simp) fun h3 e3 s3 => ?_)
  replace e3 : IsEnum h3 e z (i + 1) old := e3
  refine wpAny_bind (m := newTuple [.int i tk, .ref hp.objs.size]) (wpAny_newTuple ?_)
  have sz3 : h3.objs.size = hp.objs.size + 1 := by rw [s3.1, s2.1]; exact sz1
  have e4 : IsEnum (h3.push { cls := .type "tuple", data := .seq #[.int i tk, .ref hp.objs.size] }) e z (i + 1) old := Heap.get?_push_of_some _ e3
  have T4 : IsPair (h3.push { cls := .type "tuple", data := .seq #[.int i tk, .ref hp.objs.size] }) h3.objs.size (.int i tk) (.ref hp.objs.size) := Heap.get?_push_size _ rfl
  have k4 : ∀ c o, c ≠ e → h1.get? c = some o → (h3.push { cls := .type "tuple", data := .seq #[.int i tk, .ref hp.objs.size] }).get? c = some o := fun c o ce q => Heap.get?_push_of_some _ (s3.extBut _ _ ce (s2.extBut _ _ ce q))
  rw [sz3] at T4
  show wpAny _ _ (Builtin.SmallTypes.ownedTupleIsFree (.ref e) >>= _) _ _ _
  generalize h3.push { cls := .type "tuple", data := .seq #[.int i tk, .ref hp.objs.size] } = h4 at e4 T4 k4
  refine wpAny_bind ?_
  unfold Builtin.SmallTypes.ownedTupleIsFree
  refine wpAny_bind (wpAny_field e4 rfl (x := .none) rfl (wpAny_pure ?_))
  simp only [if_true]
  refine wpAny_bind (wpAny_rule (wpAny_bind (wpAny_field e4 rfl (x := old) rfl (wpAny_bind (wpAny_setField_rec e4 (by simp) fun h5 e5 s5 => ?_)))))
  replace e5 : IsEnum h5 e z (i + 1) (.ref hp.objs.size) := e5
  rw [sz3]
  show wpAny _ _ (Builtin.SmallTypes.ownedTupleHandOut (.ref e) (.ref (hp.objs.size + 1)) >>= _) _ _ _
  refine wpAny_bind ?_
  unfold Builtin.SmallTypes.ownedTupleHandOut
  refine wpAny_bind (wpAny_setField_rec e5 (by simp) fun h6 e6 s6 => ?_)
  replace e6 : IsEnumOut h6 e z (i + 1) (.ref hp.objs.size) (hp.objs.size + 1) := e6
  refine wpAny_setField_rec e6 (by simp) fun h7 e7 s7 => ?_
  replace e7 : IsEnumOut h7 e z (i + 1) (.ref hp.objs.size) (hp.objs.size + 1) := e7
  have k7 : ∀ c o, c ≠ e → h4.get? c = some o → h7.get? c = some o := fun c o ce q => s7.extBut _ _ ce (s6.extBut _ _ ce (s5.extBut _ _ ce q))
  have k17 : ∀ c o, c ≠ e → h1.get? c = some o → h7.get? c = some o := fun c o ce q => k7 c o ce (k4 c o ce q)
  obtain ⟨u', v', t1⟩ := t1
  exact wpAny_bind (wpAny_letGo (wpAny_pure ⟨_, rfl, K h7 tk e7 (z1.at fun o q => k17 _ _ (Ne.symm n1) q) ⟨u', v', k17 _ _ (Ne.symm n3) t1⟩ (a1.at fun o q => k17 _ _ (Ne.symm n4) q) (a2.at fun o q => k17 _ _ (Ne.symm n5) q) (k17 _ _ (Nat.ne_of_gt el) P1)
    (k7 _ _ (Nat.ne_of_gt (Nat.lt_succ_of_lt el)) T4) fun c o ce cz cT c1 c2 q => k17 _ _ ce (k1 c o cz cT c1 c2 q)⟩))
theorem pyNext_enumZ {e z TI TO i1 i2 l1 l2 : Addr} {b1 b2 : Bool} {k : Nat} {i : Int} {xs ys : Array Value} {x y u v old : Value} {Q : Option Value → Shared → Prop} (D : ZipApart z TI TO i1 i2 l1 l2) (De : e ∉ [z, TI, TO, i1, i2])
    (he : IsEnum s.heap e z i old) (hz : ZipAt s.heap z TI TO) (p1 : IsPair s.heap TI (.ref i1) (.ref i2)) (p2 : IsPair s.heap TO u v) (j1 : IterB s.heap b1 i1 l1 k) (j2 : IterB s.heap b2 i2 l2 k) (q1 : IsB s.heap b1 l1 xs) (q2 : IsB s.heap b2 l2 ys) (hx : xs[k]? = some x) (hy : ys[k]? = some y)
    (K : ∀ h' tk, IsEnumOut h' e z (i + 1) (.ref s.heap.objs.size) (s.heap.objs.size + 1) → ZipAt h' z TI TO → (∃ u v, IsPair h' TO u v) → IterB h' b1 i1 l1 (k + 1) → IterB h' b2 i2 l2 (k + 1) → IsPair h' s.heap.objs.size x y →
      IsPair h' (s.heap.objs.size + 1) (.int i tk) (.ref s.heap.objs.size) → (∀ c o, c ≠ e → c ≠ z → c ≠ TO → c ≠ i1 → c ≠ i2 → s.heap.get? c = some o → h'.get? c = some o) → Q (some (.ref (s.heap.objs.size + 1))) { s with heap := h', toks := tk + 1 }) :
    wpAny (model prog w) A (pyNext (.ref e)) Q E s := by
  have T : s.TypeIs (.ref e) "enumerate" := ⟨_, he, rfl⟩
  unfold pyNext
  exact wpAny_bind (wpAny_attempt (wpAny_callSpecial?_slot (name := Str.ofString "__next__") T F.slot_enumerate_next (wpAny_call_entry F.slot_enumerate_next T F.entry_enumerate_next
    (enumZ_next D De he hz p1 p2 j1 j2 q1 q2 hx hy fun h' tk a1 a2 a3 a4 a5 a6 a7 a8 => wpAny_pure (K h' tk a1 a2 a3 a4 a5 a6 a7 a8)) (F.args_enumerate_next_1 _))))
theorem pyEnd_enumZ {e z TI TO i1 i2 l1 l2 : Addr} {b1 b2 : Bool} {k : Nat} {i : Int} {xs ys : Array Value} {u v old : Value} {Q : Option Value → Shared → Prop} (hh : A.in1.handled = none) (D : ZipApart z TI TO i1 i2 l1 l2)
    (he : IsEnum s.heap e z i old) (hz : ZipAt s.heap z TI TO) (p1 : IsPair s.heap TI (.ref i1) (.ref i2)) (p2 : IsPair s.heap TO u v) (j1 : IterB s.heap b1 i1 l1 k) (j2 : IterB s.heap b2 i2 l2 k) (q1 : IsB s.heap b1 l1 xs) (q2 : IsB s.heap b2 l2 ys) (hend : xs[k]? = none ∨ ys[k]? = none)
    (K : ∀ h', (∀ c o, c ≠ z → c ≠ TO → c ≠ i1 → c ≠ i2 → s.heap.get? c = some o → h'.get? c = some o) → Q none { s with heap := h' }) : wpAny (model prog w) A (pyNext (.ref e)) Q E s := by
  have T : s.TypeIs (.ref e) "enumerate" := ⟨_, he, rfl⟩
  unfold pyNext
  refine wpAny_bind (wpAny_attempt (wpAny_callSpecial?_slot (name := Str.ofString "__next__") T F.slot_enumerate_next (wpAny_call_entry F.slot_enumerate_next T F.entry_enumerate_next ?_ (F.args_enumerate_next_1 _))))
  refine wpAny_bind (m := field (.ref e) 2) (wpAny_field he rfl (x := .ref z) rfl (wpAny_bind (nxtZ_end hh D hz p1 p2 j1 j2 q1 q2 hend fun h' x hk ⟨o, ho, hc⟩ => ?_)))
  exact wpAny_bind (wpAny_isInstance (T := "StopIteration") (b := true) ⟨o, ho, hc⟩ isSubtype_stop (wpAny_pure (K _ hk)))
end
end L2
set_option Elab.async false
set_option linter.all false
set_option maxRecDepth 100000
set_option maxHeartbeats 4000000
namespace L2
open PySem PySem.Spec PyProof.Rows
noncomputable def ItEZ (K : PySem.W.Frag) (st : Int) (b1 b2 : Bool) (a b : Addr) : It :=
  ⟨fun i H => ∃ xs ys x y, SqB K H b1 a xs ∧ SqB K H b2 b ys ∧ xs[i]? = some x ∧ ys[i]? = some y,
   fun i H v H' => ∃ p q x y, v = .ref q ∧ H p = none ∧ H q = none ∧ p ≠ q ∧ H' = upd (upd H p (.tup [x, y])) q (.tup [.int (st + i), .ref p]) ∧ ∀ xs ys, SqB K H b1 a xs → SqB K H b2 b ys → xs[i]? = some x ∧ ys[i]? = some y,
   fun i H => ∃ xs ys, SqB K H b1 a xs ∧ SqB K H b2 b ys ∧ (xs.length ≤ i ∨ ys.length ≤ i)⟩
theorem FpOk.new {X : Cx} {pins : List (Addr × Obj)} {H : Hp} {b p : Addr} {o : HO} (h : FpOk X pins H b) (n : b ≠ p) : FpOk X pins (upd H p o) b := by
  obtain ⟨h1, h2⟩ := h
  exact ⟨by rw [upd_ne n]; exact h1, h2⟩
theorem push_back {h : Heap} {c : Addr} {o o' : Obj} (hlt : c < h.objs.size) (q : (h.push o').get? c = some o) : h.get? c = some o := by
  obtain ⟨e1, e2⟩ := Heap.get?_some_iff.mp q
  refine Heap.get?_some_iff.mpr ⟨?_, e2⟩
  have := Nat.ne_of_lt hlt
  cases h
  simpa [Heap.push, Array.getElem?_push, this] using e1
theorem turn_enumZ {P : Program} {w : World} {K : PySem.W.Frag} {elts : List Expr} {c : Nat} {pos : Pos} {st : Int} {b1 b2 : Bool} {e z TI TO i1 i2 a b : Addr} (D : ZipApart z TI TO i1 i2 a b) (De : e ∉ [z, TI, TO, i1, i2]) :
    Turn P w K (.Tuple elts c pos) (ItEZ K st b1 b2 a b) [e, z, TI, TO, i1, i2] e (fun i h => (∃ old, IsEnum h e z (st + i) old) ∧ ZipAt h z TI TO ∧ IsPair h TI (.ref i1) (.ref i2) ∧ (∃ u v, IsPair h TO u v) ∧ IterB h b1 i1 a i ∧ IterB h b2 i2 b i) where
  mem := by simp
  obj := fun i h t x hx => by
    obtain ⟨⟨old, he⟩, ⟨_, _, _, hz⟩, hTI, ⟨u, v, hTO⟩, h1, h2⟩ := t
    simp only [List.mem_cons, List.not_mem_nil, or_false] at hx
    rcases hx with rfl | rfl | rfl | rfl | rfl | rfl
    · exact ⟨_, he, fun _ q => by cases q⟩
    · exact ⟨_, hz, fun _ q => by cases q⟩
    · exact ⟨_, hTI, fun _ q => by cases q⟩
    · exact ⟨_, hTO, fun _ q => by cases q⟩
    · exact h1.ob
    · exact h2.ob
  keep := fun i h h' t k => by
    obtain ⟨⟨old, he⟩, hz, hTI, ⟨u, v, hTO⟩, h1, h2⟩ := t
    exact ⟨⟨old, k e (by simp) _ he⟩, hz.at fun o q => k z (by simp) o q, k TI (by simp) _ hTI, ⟨u, v, k TO (by simp) _ hTO⟩, h1.at fun o q => k i1 (by simp) o q, h2.at fun o q => k i2 (by simp) o q⟩
  item := by
    intro X hP hw hK hc i pins s σ H E I hf t hg
    subst hP hw hK
    obtain ⟨xs, ys, x, y, hq1, hq2, hx, hy⟩ := hg
    obtain ⟨its1, rv1, p1, _⟩ := I.seqB hq1
    obtain ⟨its2, rv2, p2, _⟩ := I.seqB hq2
    obtain ⟨u, hu, ru⟩ := rv1.get hx
    obtain ⟨v, hv, rv⟩ := rv2.get hy
    have lt : ∀ d ∈ [e, z, TI, TO, i1, i2], d < s.heap.objs.size := fun d hd => by
      obtain ⟨o, q, _⟩ : ∃ o, s.heap.get? d = some o ∧ True := by
        obtain ⟨⟨old, he⟩, ⟨_, _, _, hz⟩, hTI, ⟨u, v, hTO⟩, h1, h2⟩ := t
        simp only [List.mem_cons, List.not_mem_nil, or_false] at hd
        rcases hd with rfl | rfl | rfl | rfl | rfl | rfl
        · exact ⟨_, he, trivial⟩
        · exact ⟨_, hz, trivial⟩
        · exact ⟨_, hTI, trivial⟩
        · exact ⟨_, hTO, trivial⟩
        · obtain ⟨o, q, _⟩ := h1.ob; exact ⟨o, q, trivial⟩
        · obtain ⟨o, q, _⟩ := h2.ob; exact ⟨o, q, trivial⟩
      exact Heap.lt_size q
    obtain ⟨⟨old, he⟩, hz, hTI, ⟨u0, v0, hTO⟩, h1, h2⟩ := t
    have De' := De
    simp only [List.mem_cons, List.not_mem_nil, or_false, not_or] at De'
    obtain ⟨n1, n2, n3, n4, n5⟩ := De'
    refine pyNext_enumZ D De he hz hTI hTO h1 h2 p1 p2 (x := u) (y := v) (by simpa using hu) (by simpa using hv) fun h' tk a1 a2 a3 a4 a5 a6 a7 hk => ⟨_, rfl, ?_⟩
    refine wpAny_letOwnedTupleGo_enum (s := { s with heap := h', toks := tk + 1 }) a1 fun h'' c1 sb => ?_
    have hn : H s.heap.objs.size = none := I.hok.fresh (Nat.le_refl _)
    have hn1 : H (s.heap.objs.size + 1) = none := I.hok.fresh (Nat.le_succ _)
    have el : e < s.heap.objs.size := lt e (by simp)
    have P1 : IsPair h'' s.heap.objs.size u v := sb.extBut _ _ (Nat.ne_of_gt el) a6
    have T1 : IsPair h'' (s.heap.objs.size + 1) (.int (st + i) tk) (.ref s.heap.objs.size) := sb.extBut _ _ (Nat.ne_of_gt (Nat.lt_succ_of_lt el)) a7
    have I1 := I.turnedNew (fp := []) (t' := s.toks) (T := s.heap.objs.size) (u := .tup [x, y]) (h' := s.heap.push { cls := .type "tuple", data := .seq #[u, v] }) (fun b hb => absurd hb (by simp)) (fun b o _ q => Heap.get?_push_of_some _ q) (Nat.le_refl _)
      ⟨by show 2 ≤ _; decide, [u, v], .cons ru (.cons rv .nil), _, Heap.get?_push_size _ rfl, rfl, _, rfl, rfl⟩
    have kk : ∀ c o, c ∉ [e, z, TI, TO, i1, i2] → (s.heap.push { cls := .type "tuple", data := .seq #[u, v] }).get? c = some o → h''.get? c = some o := fun c o hc' q => by
      simp only [List.mem_cons, List.not_mem_nil, or_false, not_or] at hc'
      obtain ⟨m1, m2, m3, m4, m5, m6⟩ := hc'
      by_cases cz : c = s.heap.objs.size
      · subst cz
        have e2 : (s.heap.push { cls := .type "tuple", data := .seq #[u, v] }).get? s.heap.objs.size = some _ := Heap.get?_push_size _ rfl
        rw [e2] at q
        cases q
        exact P1
      · have hlt : c < s.heap.objs.size := by
          have h3 := Heap.lt_size q
          rw [Heap.size_push] at h3
          exact Nat.lt_of_le_of_ne (Nat.le_of_lt_succ h3) cz
        have q2 : s.heap.get? c = some o := push_back hlt q
        exact sb.extBut _ _ m1 (hk c o m1 m2 m4 m5 m6 q2)
    have hf1 : ∀ b ∈ [e, z, TI, TO, i1, i2], FpOk X pins (upd H s.heap.objs.size (.tup [x, y])) b := fun b hb => (hf b hb).new (Nat.ne_of_lt (lt b hb))
    refine ⟨.ref (s.heap.objs.size + 1), upd (upd H s.heap.objs.size (.tup [x, y])) (s.heap.objs.size + 1) (.tup [.int (st + i), .ref s.heap.objs.size]), I1.turnedNew (t' := tk + 1) hf1 kk (by show (s.heap.push _).objs.size ≤ _; rw [Heap.size_push]; exact Nat.le_refl _) ⟨by show 2 ≤ _; decide, [.int (st + i) tk, .ref s.heap.objs.size], .cons ⟨_, rfl⟩ (.cons rfl .nil), _, T1, rfl, _, rfl, rfl⟩, rfl,
      ⟨s.heap.objs.size, s.heap.objs.size + 1, x, y, rfl, hn, hn1, Nat.ne_of_lt (Nat.lt_succ_self _), rfl, fun xs' ys' q1 q2 => ?_⟩, ⟨⟨.ref s.heap.objs.size, ?_⟩, ?_, ?_, ?_, ?_, ?_⟩, fun b hb => ?_⟩
    · rw [I.seqB_inj q1 hq1, I.seqB_inj q2 hq2]; exact ⟨hx, hy⟩
    · have : st + ((i + 1 : Nat) : Int) = st + i + 1 := by omega
      rw [this]; exact c1
    · exact a2.at fun o q => sb.extBut _ _ (Ne.symm n1) q
    · exact sb.extBut _ _ (Ne.symm n2) (hk _ _ (Ne.symm n2) D.TIz D.TITO D.TIi1 D.TIi2 hTI)
    · obtain ⟨u', v', a3⟩ := a3; exact ⟨u', v', sb.extBut _ _ (Ne.symm n3) a3⟩
    · exact a4.at fun o q => sb.extBut _ _ (Ne.symm n4) q
    · exact a5.at fun o q => sb.extBut _ _ (Ne.symm n5) q
    · rw [upd_ne (Nat.ne_of_lt (Nat.lt_succ_of_lt (lt b hb))), upd_ne (Nat.ne_of_lt (lt b hb))]
      exact (hf b hb).1
  done := by
    intro X hP hw hK hc i pins s σ H E I hf t hg
    subst hP hw hK
    obtain ⟨xs, ys, hq1, hq2, hx⟩ := hg
    obtain ⟨its1, rv1, p1, _⟩ := I.seqB hq1
    obtain ⟨its2, rv2, p2, _⟩ := I.seqB hq2
    have l1 := rv1.length
    have l2 := rv2.length
    obtain ⟨⟨old, he⟩, hz, hTI, ⟨u0, v0, hTO⟩, h1, h2⟩ := t
    refine pyEnd_enumZ (I.ok.hd hc) D he hz hTI hTO h1 h2 p1 p2 (by simp; omega) fun h' hk => ⟨rfl, I.turnedL (t' := s.toks) hf fun c o hc' q => ?_⟩
    simp only [List.mem_cons, List.not_mem_nil, or_false, not_or] at hc'
    obtain ⟨m1, m2, m3, m4, m5, m6⟩ := hc'
    exact hk c o m2 m4 m5 m6 q
  self := fun _ _ _ _ _ t h => by
    obtain ⟨⟨old, he⟩, _⟩ := t
    exact wpAny_pyIter_enum he h
end L2
set_option Elab.async false
set_option linter.all false
set_option maxRecDepth 100000
set_option maxHeartbeats 4000000
namespace L2
open PySem PySem.Spec PyProof.Rows
section
variable {prog : Program} {w : World} {A : Around} {E : Value → Shared → Prop} {s : Shared}
theorem enumK_new (z TI TO : Addr) (t : Tok) :
    Meets (Builtin.«enumerate.__new__» ⟨[.type "enumerate", .ref z], [(Str.ofString "start", .int 1 t)]⟩) (fun _ R s => IsZip s.heap z TI TO .none ∧
      R (.ok (.ret (.ref s.heap.objs.size))) { s with heap := s.heap.push { cls := .type "enumerate", data := .fields #[.none, .bool false, .ref z, rawInt 1, .none, .none] } }) :=
  .of_wp fun prog w A R s h => by
    obtain ⟨hp, g, d, tk, os⟩ := s
    obtain ⟨q1, h⟩ := h
    have hsub := sub_enumerate
    have a1 : IsZip (Shared.heap ⟨hp, g, d, tk, os⟩) z TI TO .none := q1
    wp_walk using AutoSeq1.wpAny_loadPart' q1
    refine wpAny_stack_any fun st => wpAny_pure ?_
    split
    · rename_i c _ _ _ _ _
      cases (c == Value.type "enumerate")
      · wp_walk using AutoSeq1.wpAny_loadPart' q1, wpAny_pyIter_zip a1
        exact ⟨_, rfl, h⟩
      · wp_walk using AutoSeq1.wpAny_loadPart' q1, wpAny_pyIter_zip a1
        exact ⟨_, rfl, h⟩
    · wp_walk using AutoSeq1.wpAny_loadPart' q1, wpAny_pyIter_zip a1
      exact ⟨_, rfl, h⟩
end
end L2
set_option Elab.async false
set_option linter.all false
set_option maxRecDepth 100000
set_option maxHeartbeats 4000000
namespace L2
open PySem PySem.Spec PyProof.Rows
section
variable {prog : Program} {w : World} {A : Around} {E : Value → Shared → Prop} {s : Shared}
theorem init_kw {T newId : String} {me : Value} {more : List Value} {kw : List (Str × Value)} (look : typeLookup (.type T) "__init__" = pure (some (.builtin "object.__init__")))
    (mk : Bind.madeBy (.type T) = pure (some newId)) (own : (some newId != some "object.__new__") = true) :
    Meets (Builtin.«object.__init__» ⟨me :: more, kw⟩) (fun _ R s => s.TypeIs me T ∧ R (.ok (.ret .none)) s) :=
  .of_wp fun prog w A R s ⟨ty, fin⟩ => by
    cases more <;> cases kw <;> (try repeat (any_goals (first | assumption | wp_step))) <;> exact ⟨_, rfl, fin⟩
theorem callType_kw {T newId : String} {Bn : Builtin} {xs : List Value} {kw : List (Str × Value)} {S : PySem.Spec} {Q : Value → Shared → Prop} (tc : TypeCalled T newId "object.__init__") (own : (some newId != some "object.__new__") = true)
    (okT : checkTypeCall T ⟨xs, kw⟩ = pure ()) (okN : checkBuiltinCall newId ⟨.type T :: xs, kw⟩ = pure ()) (okI : ∀ o, argsOk "object.__init__" ⟨o :: xs, kw⟩)
    (en : entryFor table newId = some Bn) (mt : Meets (Bn ⟨.type T :: xs, kw⟩) S) (h : S A.in1 (wants (fun o sa => sa.TypeIs o T ∧ Q o sa) E) s) :
    wpAny (model prog w) A (call (.type T) xs kw) Q E s := by
  have look := tc.init.lookup
  have k1 := tc.made; have k2 := tc.sub; have k3 := tc.notType; have k4 := tc.canCreate
  obtain ⟨c, rest, k5⟩ := tc.mro
  apply wpAny_call
  apply codeAny_of_tree
  change wpAny _ _ (callAny (.type T) _) _ _ _
  apply wpAny_pure
  refine And.intro (Code.quiet_builtin _ (by decide +kernel)) (codeAny_builtin F.entry_type_call ?_)
  rw [Around.under_plain (weight_type_call_type T xs kw) (units_type_call_type T xs kw)]
  repeat (any_goals (first | assumption | wp_step))
  have made := codeAny_call_builtin (prog := prog) (w := w) (A := A.in1) tc.plain en (wpAny_of_eq okN (mt prog w A.in1 _ s h))
  apply codeAny_mono made
  rintro (e | fl) sa ho
  · exact ho
  cases fl <;> first
    | exact False.elim ho
    | skip
  rename_i o
  obtain ⟨ty, q⟩ := ho
  have bind := tc.init.bind o
  repeat (any_goals (first | assumption | wp_step))
  have inited := codeAny_call_builtin (prog := prog) (w := w) (A := A.in1) tc.init.plain F.entry_object_init
    (tc.init.check _ _ _ _ _ _ _ _ ty (okI o) (init_kw look tc.made own prog w A.in1 (wants (fun v sb => v = .none ∧ Q o sb) E) sa ⟨ty, rfl, q⟩))
  apply codeAny_mono inited
  rintro (e | fl) sb hv
  · exact hv
  cases fl <;> first
    | exact False.elim hv
    | skip
  obtain ⟨rfl, qq⟩ := hv
  repeat (any_goals (first | assumption | wp_step))
theorem call_enumZ {z TI TO : Addr} {t : Tok} {Q : Value → Shared → Prop} (q1 : IsZip s.heap z TI TO .none)
    (h : ∀ h', IsEnum h' s.heap.objs.size z 1 .none → (∀ c o, s.heap.get? c = some o → h'.get? c = some o) → Q (.ref s.heap.objs.size) { s with heap := h' }) :
    wpAny (model prog w) A (call (.type "enumerate") [.ref z] [(Str.ofString "start", .int 1 t)]) Q E s := by
  refine callType_kw F.called_enumerate (by decide) (by kernel_rfl) (by kernel_rfl) (fun obj => ?_) F.entry_enumerate_new (enumK_new z TI TO t) ⟨q1, ?_⟩
  · unfold argsOk; rw [signature?_of (id := "object.__init__") (n := ['_', '_', 't', 'i', 'n', 'i', '_', '_']) (o := ['t', 'c', 'e', 'j', 'b', 'o']) (by kernel_rfl) F.owner_object]; kernel_rfl
  · have g2 : (s.heap.push { cls := .type "enumerate", data := .fields #[.none, .bool false, .ref z, rawInt 1, .none, .none] }).get? s.heap.objs.size = some _ := Heap.get?_push_size _ rfl
    exact ⟨⟨_, g2, rfl⟩, h _ g2 fun c o q => Heap.get?_push_of_some _ q⟩
end
end L2
set_option Elab.async false
set_option linter.all false
set_option maxRecDepth 100000
set_option maxHeartbeats 4000000
namespace L2
open PySem PySem.Spec PyProof.Rows
theorem callWith_typeK {M : Model} {A : Around} {E : Value → Shared → Prop} {s : Shared} {en : Env} {at' : Pos} {id : String} {x : Expr} {xs : List Expr} {ks : List Keyword} {Q : Value → Shared → Prop}
    (go : wpAny M A (spliced (backTo at' (starEach (x :: xs) en))) (fun us sa => wpAny M A (evalAll ((backToKw at' (keywordEach ks en)).map (·.2))) (fun kv sb => wpAny M A (call (.type id) us (((backToKw at' (keywordEach ks en)).filterMap (·.1)).zip kv)) Q E sb) E sa) E s)
    (first : backTo at' (starEach (x :: xs) en) = (false, eval x en) :: backTo at' (starEach xs en) := by rfl) (unstarred : (backTo at' (starEach (x :: xs) en)).any (·.1) = false := by rfl)
    (named : (backToKw at' (keywordEach ks en)).all (·.1.isSome) = true := by rfl) (noDouble : (backToKw at' (keywordEach ks en)).any (·.1.isNone) = false := by rfl) :
    wpAny M A (callWith at' (.type id) [] (backTo at' (starEach (x :: xs) en)) (backToKw at' (keywordEach ks en))) Q E s := by
  have args : wpAny M A (evalArgs (.type id) true (backTo at' (starEach (x :: xs) en)) (backToKw at' (keywordEach ks en))) (fun a sa => wpAny M A (call (.type id) ([] ++ a.pos) a.kw) Q E sa) E s := by
    rw [first] at go ⊢
    exact evalArgs_kwB named go
  unfold callWith
  apply wpAny_bind
  apply wpAny_holding
  refine wpAny_mono args (fun a sa ha => ?_) fun _ _ z => z
  apply wpAny_bind
  apply wpAny_standAt
  simp only [unstarred, noDouble, Bool.or_false]
  apply wpAny_bind
  apply wpAny_pure
  apply wpAny_bind
  exact wpAny_mono ha (fun v sb hv => wpAny_bind (wpAny_holding (wpAny_point (wpAny_pure hv)))) fun _ _ z => z
noncomputable def iEnumZ (K : PySem.W.Frag) (st : Int) (b1 b2 : Bool) (ta : TA) : TI := fun σ H R => ta σ H fun vs H1 => ∃ a b, vs = [.ref a, .ref b] ∧ (∃ xs, SqB K H1 b1 a xs) ∧ (∃ ys, SqB K H1 b2 b ys) ∧ R (ItEZ K st b1 b2 a b) H1
theorem pi_enumZ1 (b1 b2 : Bool) {X : Cx} {elts : List Expr} {c : Nat} {tpos : Pos} {a b : Expr} {ta : TA} {p p2 p3 kp pos zpos : Pos} {kk : _} (hg : Gl X "enumerate") (hm : X.mg "enumerate" = none) (hg2 : Gl X "zip") (hm2 : X.mg "zip" = none) (ha : PA X [a, b] ta)
    (hs : starEach [a, b] X.env = [(false, eval a X.env), (false, eval b X.env)] := by rfl) (hs2 : starEach [b] X.env = [(false, eval b X.env)] := by rfl)
    (he : backTo pos (starEach [.Call (.Name "zip" p2) [a, b] [] zpos] X.env) = (false, eval (.Call (.Name "zip" p2) [a, b] [] zpos) X.env) :: backTo pos (starEach [] X.env) := by rfl) (hpl : (backTo pos (starEach [.Call (.Name "zip" p2) [a, b] [] zpos] X.env)).any (·.1) = false := by rfl) :
    PI X (.Tuple elts c tpos) (.Call (.Name "enumerate" p) [.Call (.Name "zip" p2) [a, b] [] zpos] [⟨some "start", .Constant (.int 1) kk p3, kp⟩] pos) (iEnumZ X.K 1 b1 b2 ta) := by
  intro pins s σ H R I h
  refine wpAny_Call_Name_kw (ld_blt I hg hm boot_enumerate ?_ (by decide) (by decide))
  refine callWith_typeK (spliced_more ?_ he) he hpl
  refine Call_ (ld_blt I hg2 hm2 boot_zip (PyProof.Rows.callWith_type1 (thn (ha zpos pins s σ H _ I h) fun us s1 ⟨vs, H1, I1, r1, q1⟩ => ?_) (by rw [hs, hs2]) (by rw [hs2]; rfl)))
  obtain ⟨a, b, e, ⟨xs, hq1⟩, ⟨ys, hq2⟩, q⟩ := q1
  subst e
  cases r1 with
  | cons r rr =>
    cases rr with
    | cons r' rr =>
      cases rr
      cases r
      cases r'
      obtain ⟨its1, rv1, p1, _⟩ := I1.seqB hq1
      obtain ⟨its2, rv2, p2, _⟩ := I1.seqB hq2
      have la := p1.lt
      have lb := p2.lt
      refine call_zipB p1 p2 fun h' a1 a2 a3 a4 a5 hk => spliced_none ?_
      have D : ZipApart (s1.heap.objs.size + 4) (s1.heap.objs.size + 2) (s1.heap.objs.size + 3) s1.heap.objs.size (s1.heap.objs.size + 1) a b := zip_apart la lb
      show wpAny _ X.A (evalAll [(do let v ← eval (.Constant (.int 1) kk p3) X.env; standAt pos; pure v)]) _ _ _
      refine wpAny_evalAll_cons (wpAny_bind (wpAny_Constant_int (wpAny_bind (wpAny_standAt (wpAny_pure (wpAny_evalAll_nil ?_))))))
      show wpAny _ X.A (call (.type "enumerate") [.ref (s1.heap.objs.size + 4)] [(Str.ofString "start", .int 1 _)]) _ _ _
      refine call_enumZ a1 fun h2 e2 k2 => wpAny_pyIter_enum e2 ?_
      have l4 : s1.heap.objs.size + 4 < h'.objs.size := Heap.lt_size a1
      have De : h'.objs.size ∉ [s1.heap.objs.size + 4, s1.heap.objs.size + 2, s1.heap.objs.size + 3, s1.heap.objs.size, s1.heap.objs.size + 1] := by
        simp only [List.mem_cons, List.not_mem_nil, or_false, not_or]
        refine ⟨?_, ?_, ?_, ?_, ?_⟩ <;> (show ¬ ((_ : Nat) = (_ : Nat))) <;> omega
      refine ⟨_, _, _, _, H1, rfl, I1.kept (t' := s1.toks + 1) fun c o q => k2 c o (hk c o q), turn_enumZ (st := 1) (e := h'.objs.size) D De, ⟨⟨_, e2⟩, ⟨_, _, .inl rfl, k2 _ _ a1⟩, k2 _ _ a2, ⟨_, _, k2 _ _ a3⟩, a4.at fun o q => k2 _ _ q, a5.at fun o q => k2 _ _ q⟩, fun x hx => ?_, q⟩
      have hx' : s1.heap.objs.size ≤ x := by
        simp only [List.mem_cons, List.not_mem_nil, or_false] at hx
        rcases hx with rfl | rfl | rfl | rfl | rfl | rfl <;> (show (_ : Nat) ≤ (_ : Nat)) <;> omega
      exact I1.fpOk hx' (I1.hok.fresh hx')
end L2
set_option Elab.async false
set_option linter.all false
set_option maxRecDepth 100000
set_option maxHeartbeats 4000000
namespace L2
open PySem PySem.Spec PyProof.Rows
theorem for_enumZ {K : PySem.W.Frag} {st : Int} {b1 b2 : Bool} {a b : Addr} {xs ys : List V} {g : TG} {tb : TS} {D : Ends} {σ : St} {H : Hp} (Pv : Nat → St → Hp → Prop) (hxy : xs.length = ys.length) (h0 : Pv 0 σ H) (hl : ∀ i σ H, i ≤ xs.length → Pv i σ H → SqB K H b1 a xs ∧ SqB K H b2 b ys)
    (hs : ∀ i x y p q σ H, xs[i]? = some x → ys[i]? = some y → Pv i σ H → H p = none → H q = none → p ≠ q → g (.ref q) σ (upd (upd H p (.tup [x, y])) q (.tup [.int (st + i), .ref p])) fun σ2 H2 => tb { D with nx := Pv (i + 1), ct := Pv (i + 1), bk := D.nx } σ2 H2) (hd : ∀ σ H, Pv xs.length σ H → D.nx σ H) :
    ∃ W : Nat → Nat → St → Hp → Prop, (∃ m, W 0 m σ H) ∧ ∀ i m σ H, W i m σ H →
      ((ItEZ K st b1 b2 a b).stop i H ∧ D.nx σ H) ∨ ((ItEZ K st b1 b2 a b).go i H ∧ ∃ N : St → Hp → Prop, (∀ σ' H', N σ' H' → ∃ m', m' < m ∧ W (i + 1) m' σ' H') ∧ ∀ x H', (ItEZ K st b1 b2 a b).yld i H x H' → g x σ H' fun σ2 H2 => tb { D with nx := N, ct := N, bk := D.nx } σ2 H2) := by
  refine ⟨fun i m σ H => m = xs.length - i ∧ i ≤ xs.length ∧ Pv i σ H, ⟨xs.length, by simp, Nat.zero_le _, h0⟩, ?_⟩
  rintro i m σ H ⟨rfl, hi, p⟩
  obtain ⟨q1, q2⟩ := hl i σ H hi p
  by_cases hlt : i < xs.length
  · refine .inr ⟨⟨xs, ys, xs[i], ys[i]'(by omega), q1, q2, by simp [hlt], List.getElem?_eq_getElem (by omega)⟩, Pv (i + 1), fun σ' H' p' => ⟨xs.length - (i + 1), by omega, rfl, hlt, p'⟩, fun x H' y => ?_⟩
    obtain ⟨r, r2, z1, z2, rfl, hr, hr2, hne, rfl, hz⟩ := y
    obtain ⟨e1, e2⟩ := hz xs ys q1 q2
    exact hs i z1 z2 r r2 σ H e1 e2 p hr hr2 hne
  · have e : i = xs.length := by omega
    subst e
    exact .inl ⟨⟨xs, ys, q1, q2, .inl (Nat.le_refl _)⟩, hd σ H p⟩
end L2
set_option Elab.async false
set_option linter.all false
set_option maxRecDepth 100000
set_option maxHeartbeats 4000000
namespace L2
open PySem PySem.Spec PyProof.Rows MA
section
variable {X : Cx}
theorem call_sumT (hc : X.calm = true) : CallR X (.builtin "sum") (fun xs H Q => ∃ (l : Addr) (ns : List Int), xs = [.ref l] ∧ H l = some (.tup (ns.map V.int)) ∧ Q (.int ns.sum) H) := by
  intro pins s σ H xs us Q I r h
  obtain ⟨l, ns, rfl, hl, q⟩ := h
  obtain ⟨u, rfl, ru⟩ := vals1 r
  cases ru
  obtain ⟨its, rv, p, hz⟩ := I.tuple (SqT.of hl)
  have hi := intsAre_of rv
  obtain ⟨ys, e⟩ := hi.allInts.items
  have hnum : ns = ys.toList.map (·.1) := by
    have h1 := hi.numsOf
    have h2 := nums_intItems ys
    rw [← e] at h2
    rw [← h1, ← h2]
  refine PySem.W.ktm_sumG (I.ok.hd hc) (xs := ys) (by rw [← e]; exact p) fun h' tk t' hk => ?_
  refine ⟨.int ns.sum, H, I.kept (t' := tk) hk, ⟨t', ?_⟩, q⟩
  rw [preSum_eq, List.take_of_length_le (by simp), hnum]
end
end L2
set_option Elab.async false
set_option linter.all false
set_option maxRecDepth 100000
set_option maxHeartbeats 4000000
namespace My
open PySem L2 MA
end My
set_option Elab.async false
set_option linter.all false
set_option maxRecDepth 100000
set_option maxHeartbeats 4000000
namespace L2
open PySem PySem.Spec PyProof.Rows MA SeqAt
end L2
set_option Elab.async false
set_option linter.all false
set_option maxRecDepth 100000
set_option maxHeartbeats 4000000
namespace My
open PySem L2 MA
end My
set_option Elab.async false
set_option linter.all false
set_option maxRecDepth 100000
set_option maxHeartbeats 4000000
namespace My
open PySem L2 MA
end My
set_option Elab.async false
set_option linter.all false
set_option maxRecDepth 100000
set_option maxHeartbeats 4000000
namespace My
open PySem L2 MA
end My
set_option Elab.async false
set_option linter.all false
set_option maxRecDepth 100000
set_option maxHeartbeats 4000000
namespace L2
open PySem PySem.Spec PyProof.Rows
end L2
set_option Elab.async false
set_option linter.all false
set_option maxRecDepth 100000
set_option maxHeartbeats 4000000
namespace L2
open PySem PySem.Spec PyProof.Rows
end L2
set_option Elab.async false
set_option linter.all false
set_option maxRecDepth 100000
set_option maxHeartbeats 4000000
namespace L2
open PySem PySem.Spec PyProof.Rows MA SeqAt
end L2
set_option Elab.async false
set_option linter.all false
set_option maxRecDepth 100000
set_option maxHeartbeats 4000000
namespace PySem.SeqAt
open AutoSeq1 (wpAny_loadPart')
open MeetsSeq MeetsSeq2 MeetsSeq3 SeqRoads2
end PySem.SeqAt
namespace L2
open PySem PySem.Spec PyProof.Rows MA
end L2
set_option Elab.async false
set_option linter.all false
set_option maxRecDepth 100000
set_option maxHeartbeats 4000000
namespace L2
open PySem PySem.Spec PyProof.Rows
end L2
set_option Elab.async false
set_option linter.all false
set_option maxRecDepth 100000
set_option maxHeartbeats 4000000
namespace PyProof.Rows
open PySem
end PyProof.Rows
namespace L2
open PySem PySem.Spec PyProof.Rows MA
end L2
set_option Elab.async false
set_option linter.all false
set_option maxRecDepth 100000
set_option maxHeartbeats 4000000
namespace L2
open PySem PySem.Spec PyProof.Rows
theorem sub_ri_reversed : isSubtype (.type "range_iterator") (.type "reversed") = pure false := by rw [isSubtype_type]; kernel_rfl
section
variable {prog : Program} {w : World} {A : Around} {E : Value → Shared → Prop} {s : Shared}
noncomputable abbrev revR (n : Int) : Obj := { cls := .type "range_iterator", data := .fields #[rawInt (n - 1), rawInt n, rawInt (-1)] }
theorem call_range_reversed {r : Addr} {n : Int} {t u v : Tok} {Q : Value → Shared → Prop} (hr : IsRange s.heap r 0 n 1 t u v) (h0 : 0 ≤ n) (h1 : n < 2 ^ 62)
    (h : Q (.ref s.heap.objs.size) { s with heap := s.heap.push (revR n) }) : wpAny (model prog w) A (call (.builtin "range.__reversed__") [.ref r]) Q E s := by
  have hT : s.TypeIs (.ref r) "range" := ⟨_, hr, rfl⟩
  refine wpAny_call_entry F.slot_range_reversed hT F.entry_range_reversed ?_ (F.args_range_reversed_1 _)
  unfold Builtin.«range.__reversed__»
  refine wpAny_bind (wpAny_of_eq (a := Value.ref r) rfl ?_)
  unfold Builtin.Range.rangeFields
  refine wpAny_bind ?_
  refine wpAny_bind (wpAny_field hr rfl (x := .int 0 t) rfl ?_)
  refine wpAny_bind (wpAny_of_eq (a := some (0 : Int)) rfl ?_)
  refine wpAny_bind (wpAny_field hr rfl (x := .int n u) rfl ?_)
  refine wpAny_bind (wpAny_of_eq (a := some n) rfl ?_)
  refine wpAny_bind (wpAny_field hr rfl (x := .int 1 v) rfl ?_)
  refine wpAny_bind (wpAny_of_eq (a := some (1 : Int)) rfl ?_)
  refine wpAny_pure ?_
  dsimp only
  have e : Builtin.Range.rangeSize 0 n 1 = n := by rw [rangeSize_one]; split <;> omega
  rw [e]
  have sm : (Builtin.Range.rangeFitsLong 0 && Builtin.Range.rangeFitsLong n && Builtin.Range.rangeFitsLong 1 && Builtin.Range.rangeFitsLong (-1) && Builtin.Range.rangeFitsLong (0 - 1) && Builtin.Range.rangeFitsLong n) = true := by
    simp only [Builtin.Range.rangeFitsLong, Bool.and_eq_true, decide_eq_true_eq]
    omega
  rw [sm]
  have e2 : 0 + (n - 1) * 1 = n - 1 := by omega
  rw [e2]
  exact wpAny_bind (wpAny_newObj_type (wpAny_pure ⟨_, rfl, h⟩))
theorem code_reversed_newR {r : Addr} {n : Int} {t u v : Tok} {Q₁ : Value → Shared → Prop} (hr : IsRange s.heap r 0 n 1 t u v) (h0 : 0 ≤ n) (h1 : n < 2 ^ 62)
    (h : Q₁ (.ref s.heap.objs.size) { s with heap := s.heap.push (revR n) }) :
    codeAny (model prog w) A (.call (.builtin "reversed.__new__") ⟨[.type "reversed", .ref r], []⟩) (wants Q₁ E) s := by
  have hT : s.TypeIs (.ref r) "range" := ⟨_, hr, rfl⟩
  refine codeAny_of_tree ?_
  show wpAny _ A.in1 (do checkBuiltinCall "reversed.__new__" ⟨[.type "reversed", .ref r], []⟩; again (.builtin "reversed.__new__" ⟨[.type "reversed", .ref r], []⟩)) _ _ s
  refine wpAny_bind (wpAny_of_eq (F.newCall_reversed_1 _) (wpAny_pure ⟨plainId_quiet F.plain_reversed_new _, codeAny_builtin F.entry_reversed_new ?_⟩))
  rw [Around.under_plainId F.plain_reversed_new _]
  unfold Builtin.«reversed.__new__»
  refine wpAny_bind (wpAny_of_eq (newClass_reversed _) ?_)
  try dsimp only
  refine wpAny_bind (wpAny_of_eq (a := ()) (by first | rfl | kernel_rfl) ?_)
  refine wpAny_bind (wpAny_of_eq (a := ()) (by first | rfl | kernel_rfl) ?_)
  try dsimp only
  refine wpAny_bind (wpAny_specialOf hT F.slot_range_reversed.lookup ?_)
  try dsimp only
  refine wpAny_bind (wpAny_of_eq (F.slot_range_reversed.bind _) ?_)
  try dsimp only
  first
  | rw [if_neg (show ¬ ((Value.builtin "range.__reversed__" == Value.none) = true) from Bool.false_ne_true)]
  | (show wpAny _ _ (if (Value.builtin "range.__reversed__" == Value.none) = true then _ else _) _ _ _; rw [if_neg (show ¬ ((Value.builtin "range.__reversed__" == Value.none) = true) from Bool.false_ne_true)])
  refine wpAny_bind (wpAny_rule ?_)
  refine wpAny_bind (m := runValue (.call (.builtin "range.__reversed__") ⟨[.ref r], []⟩)) (show wpAny _ _ (call (.builtin "range.__reversed__") [.ref r]) _ _ _ from call_range_reversed hr h0 h1 ?_)
  first
  | exact wpAny_pure h
  | exact wpAny_bind (wpAny_pure (wpAny_pure h))
theorem call_reversed_range {r : Addr} {n : Int} {t u v : Tok} {Q : Value → Shared → Prop} (hr : IsRange s.heap r 0 n 1 t u v) (h0 : 0 ≤ n) (h1 : n < 2 ^ 62)
    (h : Q (.ref s.heap.objs.size) { s with heap := s.heap.push (revR n) }) : wpAny (model prog w) A (call (.type "reversed") [.ref r]) Q E s := by
  refine callType_other (U := "range_iterator") (Q₁ := fun obj s₁ => obj = .ref s.heap.objs.size ∧ s₁ = { s with heap := s.heap.push (revR n) }) (by decide +kernel) F.create_reversed ⟨_, _, F.mro_reversed⟩ F.made_reversed sub_ri_reversed (F.typeCall_reversed_1 _) (code_reversed_newR hr h0 h1 ⟨rfl, rfl⟩) ?_
  rintro obj s₁ ⟨rfl, rfl⟩
  exact ⟨⟨_, Heap.get?_push_size _ rfl, rfl⟩, h⟩
end
noncomputable def Itd (n : Nat) : It := ⟨fun i _ => i < n, fun i H x H' => H' = H ∧ x = .int ((n : Int) - 1 - i), fun i _ => n ≤ i⟩
theorem turn_revR {P : Program} {w : World} {K : PySem.W.Frag} {tg : Expr} (it : Addr) (n : Nat) : Turn P w K tg (Itd n) [it] it (fun i h => IsRangeIter h it ((n : Int) - 1 + (i : Nat) * -1) ((n : Int) - (i : Nat)) (-1)) where
  mem := by simp
  obj := fun i h st b hb => by
    have e : b = it := by simpa using hb
    subst e
    exact ⟨_, st, fun v z => by
      have z' : Data.fields _ = Data.cell v := z
      cases z'⟩
  keep := fun i h h' st k => k it (by simp) _ st
  item := by
    intro X hP hw hK hc i pins s σ H E I hf st hg
    subst hP hw hK
    obtain ⟨f0, f1, f2, f3, f4, f5⟩ := hf it (by simp)
    have W := Walks.range (prog := X.prog) (w := X.w) (I.ok.hd hc) it ((n : Int) - 1) (-1) n
    refine W.item i s _ _ hg st fun v h' tk hv st' kk => ?_
    obtain ⟨t, rfl⟩ := hv
    have I1 : Inv X pins σ H { s with heap := h', toks := tk } := I.turned (fun b o hb e => kk b o (by simpa using hb) e) f0 f1 f3 f4 f5
    refine ⟨_, rfl, go_of (s := { s with heap := h', toks := tk }) (n := "range_iterator") st' rfl rfl (by decide) ⟨.int ((n : Int) - 1 - i), H, I1, ⟨t, ?_⟩, ⟨rfl, rfl⟩, st', fun b hb => (hf b hb).1⟩⟩
    rw [show (n : Int) - 1 + (i : Int) * -1 = (n : Int) - 1 - i by omega]
  done := by
    intro X hP hw hK hc i pins s σ H E I hf st hg
    subst hP hw hK
    obtain ⟨f0, f1, f2, f3, f4, f5⟩ := hf it (by simp)
    exact wpAny_pyNext_range_end (I.ok.hd hc) st (by have : n ≤ i := hg; omega) fun h' eb => ⟨rfl, I.turned (t' := s.toks) (fun b o hb e => eb b o hb e) f0 f1 f3 f4 f5⟩
  self := fun _ _ _ _ _ st h => wpAny_pyIter_rangeiter st h
section
variable {X : Cx} {tg : Expr}
noncomputable def iRevR (ta : TA) : TI := fun σ H R => ta σ H fun vs H1 => ∃ n : Nat, vs = [.int (n : Int)] ∧ n < 4611686018427387904 ∧ R (Itd n) H1
theorem pi_revR {a : Expr} {ta : TA} {p pos p2 pos2 : Pos} (hg : Gl X "reversed") (hm : X.mg "reversed" = none) (hg2 : Gl X "range") (hm2 : X.mg "range" = none) (ha : PA X [a] ta) (hs : starEach [a] X.env = [(false, eval a X.env)] := by rfl)
    (he : starEach [.Call (.Name "range" p2) [a] [] pos2] X.env = [(false, eval (.Call (.Name "range" p2) [a] [] pos2) X.env)] := by rfl) :
    PI X tg (.Call (.Name "reversed" p) [.Call (.Name "range" p2) [a] [] pos2] [] pos) (iRevR ta) := by
  intro pins s σ H R I h
  refine Call_ (ld_blt I hg hm boot_reversed (PyProof.Rows.callWith_type1 ?_ he rfl))
  rw [he]
  show wpAny _ _ (spliced ((false, eval (.Call (.Name "range" p2) [a] [] pos2) X.env) :: backTo pos (starEach [] X.env))) _ _ s
  refine Calls.spliced_cons ?_
  refine Call_ (ld_blt I hg2 hm2 boot_range (PyProof.Rows.callWith_type1 (thn (ha pos2 pins s σ H _ I h) fun us s1 ⟨vs, H1, I1, r1, q1⟩ => ?_) hs rfl))
  obtain ⟨n, e, q1, q⟩ := q1
  subst e
  cases r1 with
  | cons r rr =>
    cases rr
    obtain ⟨t, rfl⟩ := r
    refine call_range_1 (Calls.spliced_nil ?_)
    refine call_reversed_range (IsRange.new ..) (by omega) (by omega) ?_
    have I2 : Inv X pins σ H1 { s1 with heap := s1.heap.push { cls := .type "range", data := .fields #[.int 0 s1.toks, .int (n : Int) t, .int 1 (s1.toks + 1)] }, toks := s1.toks + 1 + 1 } := I1.kept fun b o e => Heap.get?_push_of_some _ e
    generalize s1.heap.push { cls := .type "range", data := .fields #[.int 0 s1.toks, .int (n : Int) t, .int 1 (s1.toks + 1)] } = h2 at I2
    have st : IsRangeIter (h2.push (revR n)) h2.objs.size ((n : Int) - 1 + ((0 : Nat) : Int) * -1) ((n : Int) - ((0 : Nat) : Int)) (-1) := by
      rw [show (n : Int) - 1 + ((0 : Nat) : Int) * -1 = (n : Int) - 1 by omega, show (n : Int) - ((0 : Nat) : Int) = n by omega]
      exact Heap.get?_push_size _ rfl
    refine wpAny_pyIter_rangeiter st ?_
    refine ⟨h2.objs.size, [h2.objs.size], _, _, H1, rfl, I2.kept fun b o e => Heap.get?_push_of_some _ e, turn_revR _ n, st, fun b hb => ?_, q⟩
    have e : b = h2.objs.size := by simpa using hb
    subst e
    exact I2.fpOk (Nat.le_refl _) (I2.hok.fresh (Nat.le_refl _))
end
theorem comp_revR {n : Nat} {te : TE} {H : Hp} {R : Addr → Hp → Prop} {fs : St} (Pv : Addr → Nat → List V → Hp → Prop) (hn : n ≤ 100000) (hp0 : ∀ p, H p = none → Pv p 0 [] (upd H p (.lst [])))
    (hte : ∀ p i ys H', H p = none → i < n → ys.length = i → Pv p i ys H' → H' p = some (.lst ys) → ∀ Q' : VK, (∀ v H'', H'' p = some (.lst ys) → Pv p (i + 1) (ys ++ [v]) (upd H'' p (.lst (ys ++ [v]))) → Q' v H'') → te (some (.int ((n : Int) - 1 - i)) :: fs) H' Q')
    (q : ∀ p ys H', H p = none → Pv p n ys H' → H' p = some (.lst ys) → ys.length = n → R p H') :
    ∀ p, H p = none → ∃ W : Nat → Nat → List V → St → Hp → Prop, (∃ m, W 0 m [] (none :: fs) (upd H p (.lst []))) ∧ ∀ i m ys σ' H', W i m ys σ' H' →
      ((Itd n).stop i H' ∧ R p H') ∨ ((Itd n).go i H' ∧ ∀ x H2, (Itd n).yld i H' x H2 → gName 0 x σ' H2 fun σ2 H3 => tTT σ2 H3 fun b H4 => if b = true then te σ2 H4 fun v H5 => ys.length < sizeLine ∧ H5 p = some (.lst ys) ∧ (∃ m', m' < m ∧ W (i + 1) m' (ys ++ [v]) σ2 (upd H5 p (.lst (ys ++ [v]))))
        else ∃ m', m' < m ∧ W (i + 1) m' ys σ2 H4) := by
  intro p hp
  refine ⟨fun i m ys σ' H' => m = n - i ∧ i ≤ n ∧ ys.length = i ∧ Pv p i ys H' ∧ H' p = some (.lst ys) ∧ ∃ o, σ' = o :: fs, ⟨n, by simp, Nat.zero_le _, rfl, hp0 p hp, upd_same, _, rfl⟩, ?_⟩
  rintro i m ys σ' H' ⟨rfl, hi, hl, pv, hp', o, rfl⟩
  by_cases hlt : i < n
  · refine .inr ⟨hlt, fun x H2 hy => ?_⟩
    obtain ⟨rfl, rfl⟩ := hy
    change te (some (.int ((n : Int) - 1 - i)) :: fs) H2 _
    refine hte p i ys H2 hp hlt hl pv hp' _ fun v H5 h5 pv5 => ⟨?_, h5, n - (i + 1), by omega, rfl, hlt, by simp [hl], pv5, upd_same, _, rfl⟩
    rw [hl, sizeLine_eq]; omega
  · have e : i = n := by omega
    subst e
    exact .inl ⟨Nat.le_refl _, q p ys H' hp pv hp' hl⟩
end L2
set_option Elab.async false
set_option linter.all false
set_option maxRecDepth 100000
set_option maxHeartbeats 4000000
namespace L2
open PySem PySem.Spec PyProof.Rows
end L2
set_option Elab.async false
set_option linter.all false
set_option maxRecDepth 100000
set_option maxHeartbeats 4000000
namespace L2
open PySem PySem.Spec PyProof.Rows
end L2
set_option Elab.async false
set_option linter.all false
set_option maxRecDepth 100000
set_option maxHeartbeats 4000000
namespace L2
open PySem PySem.Spec PyProof.Rows
end L2
set_option Elab.async false
set_option linter.all false
set_option maxRecDepth 100000
set_option maxHeartbeats 4000000
namespace My
open PySem L2 MA
end My
set_option Elab.async false
set_option linter.all false
set_option maxRecDepth 100000
set_option maxHeartbeats 4000000
namespace PySem.SeqAt
open AutoSeq1 (wpAny_loadPart')
open MeetsSeq MeetsSeq2 MeetsSeq3
noncomputable def RcLtAt (A : Around) (s : Shared) (y x : Value) (b : Bool) : Prop :=
  ∀ (prog : Program) (w : World) (E : Value → Shared → Prop) (Q : Value → Shared → Prop), Q (.bool b) s → wpAny (model prog w) A (richCompare .Lt y x) Q E s
theorem tuple_ltAt (l b : Addr) (items items2 : Array Value) (n n2 : Nat) (dd dd2 : Option Addr) (sl sl2 : Array (Option Value)) (e f res : Nat → Bool)
    (r1 : ∀ i, i < min items.size items2.size → e i = true → res i = res (i + 1)) (r2 : ∀ i, i < min items.size items2.size → e i = false → res i = f i) (r3 : ∀ i, min items.size items2.size ≤ i → res i = decide (items.size < items2.size)) :
    Meets (Builtin.«tuple.__lt__» ⟨[.ref l, .ref b], []⟩)
      (fun A R s => s.heap.get? l = some { cls := .type "tuple", dict := dd, data := .seq items n, slots := sl } ∧ s.heap.get? b = some { cls := .type "tuple", dict := dd2, data := .seq items2 n2, slots := sl2 } ∧
        (∀ j (h1 : j < items.size) (h2 : j < items2.size), EqAt A.in1 s items[j] items2[j] (e j)) ∧ (∀ j (h1 : j < items.size) (h2 : j < items2.size), e j = false → RcLtAt A.in1 s items[j] items2[j] (f j)) ∧
        R (.ok (.ret (.bool (res 0)))) s) :=
  .of_wp fun prog w A R s h => by
    obtain ⟨hp, g, d, tk, os⟩ := s; obtain ⟨hl, hb, he, hlt', h⟩ := h
    have f2 := AutoSeq1.sub_tuple_tuple
    have hZ : (items.toList.zip items2.toList).length = min items.size items2.size := by simp
    wp_walk using wpAny_loadPart' hl, wpAny_loadPart' hb, wpAny_forIn_list _ (fun rest b s' => b.1 = none ∧ s' = ⟨hp, g, d, tk, os⟩ ∧ ∃ i, rest = (items.toList.zip items2.toList).drop i ∧
      R (.ok (.ret (.bool (res i)))) ⟨hp, g, d, tk, os⟩) _
    case turn =>
      rintro ⟨y, x⟩ rest b s' ⟨hb', rfl, i, hz, hR⟩
      have hlt : i < (items.toList.zip items2.toList).length := by
        rcases Nat.lt_or_ge i (items.toList.zip items2.toList).length with h' | h'
        · exact h'
        · rw [List.drop_of_length_le h'] at hz; cases hz
      have hm : i < min items.size items2.size := hZ ▸ hlt
      have h1 : i < items.size := Nat.lt_of_lt_of_le hm (Nat.min_le_left _ _)
      have h2 : i < items2.size := Nat.lt_of_lt_of_le hm (Nat.min_le_right _ _)
      rw [List.drop_eq_getElem_cons hlt] at hz
      injection hz with hyx hrest
      have hy : y = items[i] := by have := congrArg Prod.fst hyx; simpa using this
      have hx : x = items2[i] := by have := congrArg Prod.snd hyx; simpa using this
      subst hy hx
      refine wpAny_bind (he i h1 h2 prog w _ _ ?_)
      cases hy : e i with
      | true =>
        rw [r1 i hm hy] at hR
        wp_walk
        exact ⟨rfl, rfl, i + 1, hrest, hR⟩
      | false =>
        rw [r2 i hm hy] at hR
        have hc := hlt' i h1 h2 hy
        simp only [Bool.not_false, if_true]
        refine wpAny_bind (wpAny_rule (wpAny_bind (hc prog w _ _ (wpAny_bind (wpAny_pure (wpAny_pure ?_))))))
        exact wpAny_pure ⟨_, rfl, hR⟩
    case fin =>
      rintro ⟨b1, b2⟩ s' ⟨hb', rfl, i, hz, hR⟩
      simp only at hb'
      subst hb'
      have hge : min items.size items2.size ≤ i := by
        rcases Nat.lt_or_ge i (items.toList.zip items2.toList).length with h' | h'
        · rw [List.drop_eq_getElem_cons h'] at hz; cases hz
        · exact hZ ▸ h'
      rw [r3 i hge] at hR
      wp_walk
      exact ⟨_, rfl, by simpa [Builtin.Tuple.tupleCompareSizes] using hR⟩
    case h =>
      exact ⟨rfl, rfl, 0, rfl, h⟩
section
variable {A : Around} {s : Shared}
theorem RcLtAt.tuples {l b : Addr} {items items2 : Array Value} {e f res : Nat → Bool} (hl : s.heap.IsTuple l items) (hb : s.heap.IsTuple b items2) (hu : A.units < cLine)
    (r1 : ∀ i, i < min items.size items2.size → e i = true → res i = res (i + 1)) (r2 : ∀ i, i < min items.size items2.size → e i = false → res i = f i) (r3 : ∀ i, min items.size items2.size ≤ i → res i = decide (items.size < items2.size))
    (he : ∀ j (h1 : j < items.size) (h2 : j < items2.size), EqAt A.in1 s items[j] items2[j] (e j)) (hf : ∀ j (h1 : j < items.size) (h2 : j < items2.size), e j = false → RcLtAt A.in1 s items[j] items2[j] (f j)) : RcLtAt A s (.ref l) (.ref b) (res 0) := fun prog w E Q h => by
  obtain ⟨⟨cls, dd, data, sl⟩, ho, hc, n, hd⟩ := id hl
  obtain ⟨⟨cls2, dd2, data2, sl2⟩, ho2, hc2, n2, hd2⟩ := id hb
  simp only at hc hd hc2 hd2
  subst hc hd hc2 hd2
  exact richCompare_meets_room (op := .Lt) ⟨_, ho, rfl⟩ ⟨_, ho2, rfl⟩ F.slot_tuple_lt F.entry_tuple_lt (F.args_tuple_lt_2 _ _) (tuple_ltAt l b items items2 n n2 dd dd2 sl sl2 e f res r1 r2 r3)
    ⟨ho, ho2, he, hf, show Value.bool (res 0) ≠ Value.notImplemented ∧ Q (.bool (res 0)) s from ⟨(fun x => nomatch x), h⟩⟩ hu
end
end PySem.SeqAt
set_option Elab.async false
set_option linter.all false
set_option maxRecDepth 100000
set_option maxHeartbeats 4000000
namespace Srt
open PySem PySem.W PyProof.Rows
noncomputable def Path {α : Type} (V : Nat → Nat → Prop) (c : Nat → Nat → Bool) (G : α → Prop) : KasT α → Prop
  | .ret a => G a
  | .ask i j k => V i j ∧ Path V c G (k (c i j))
section
variable {α β : Type} {V : Nat → Nat → Prop} {c : Nat → Nat → Bool}
theorem Path.bind {G : β → Prop} {f : α → KasT β} : ∀ {t : KasT α}, Path V c (fun a => Path V c G (f a)) t → Path V c G (t.bind f)
  | .ret _, p => p
  | .ask _ _ _, ⟨v, p⟩ => ⟨v, Path.bind p⟩
theorem Path.wp {G : α → Prop} {cmp : Nat → Nat → (Bool → Shared → Prop) → Shared → Prop} {Q : α → Shared → Prop} {s : Shared} (hc : ∀ i j C, V i j → C (c i j) s → cmp i j C s) (hq : ∀ a, G a → Q a s) :
    ∀ {t : KasT α}, Path V c G t → t.kasWp cmp Q s
  | .ret _, p => hq _ p
  | .ask i j k, ⟨v, p⟩ => hc i j _ v (Path.wp hc hq p)
end
structure Ord (c : Nat → Nat → Bool) : Prop where
  asym : ∀ i j, c i j = true → c j i = false
  tr : ∀ i j k, c j i = false → c k j = false → c k i = false
noncomputable abbrev at' (p : Array Nat) (i : Nat) : Nat := p.getD i 0
noncomputable def Up (c : Nat → Nat → Bool) (p : Array Nat) (m : Nat) : Prop := ∀ i j, i ≤ j → j < m → c (at' p j) (at' p i) = false
noncomputable def Dn (c : Nat → Nat → Bool) (p : Array Nat) (m : Nat) : Prop := ∀ i j, i ≤ j → j < m → c (at' p i) (at' p j) = false
theorem at_of {p q : Array Nat} {i j : Nat} (h : p[i]? = q[j]?) : at' p i = at' q j := by
  unfold at'
  rw [Array.getD_eq_getD_getElem?, Array.getD_eq_getD_getElem?, h]
theorem at_rev {p : Array Nat} {i j : Nat} (hj : j ≤ p.size) (k : Nat) : at' (kas_rev p i j) k = if i ≤ k ∧ k < j then at' p (i + j - 1 - k) else at' p k := by
  have h := getElem?_mirror_all (i := i) hj k
  split at h
  · rename_i q; rw [if_pos q]; exact at_of h
  · rename_i q; rw [if_neg q]; exact at_of h
theorem at_bub {p : Array Nat} {k l : Nat} (hk : k < p.size) (hl : l ≤ k) (i : Nat) : at' (bubble p k (k - l)) i = if i = l then at' p k else if l < i ∧ i ≤ k then at' p (i - 1) else at' p i := by
  have h := getElem?_bubble hk (k - l) (by omega) i
  rw [show k - (k - l) = l by omega] at h
  split at h
  · rename_i q; rw [if_pos q]; exact at_of h
  · rename_i q; rw [if_neg q]
    split at h
    · rename_i q; rw [if_pos q]; exact at_of h
    · rename_i q; rw [if_neg q]; exact at_of h
noncomputable def Of (n : Nat) (p : Array Nat) : Prop := p.Perm (List.toArray (List.range n))
theorem Of.size {n : Nat} {p : Array Nat} (h : Of n p) : p.size = n := by have := h.size_eq; simpa using this
theorem Of.lt {n : Nat} {p : Array Nat} (h : Of n p) {i : Nat} (hi : i < n) : at' p i < n := by
  have hs := h.size
  have e : at' p i = p[i]'(by omega) := by unfold at'; simp [hs, hi]
  have hm : p[i]'(by omega) ∈ (List.range n) := by
    have := (Array.perm_iff_toList_perm.mp h).mem_iff (a := p[i]'(by omega))
    exact this.mp (by simp)
  rw [e]; exact List.mem_range.mp hm
theorem Of.rev {n : Nat} {p : Array Nat} (h : Of n p) (i j : Nat) : Of n (kas_rev p i j) := (mirror_perm p i j _).trans h
theorem Of.bub {n : Nat} {p : Array Nat} (h : Of n p) (i j : Nat) : Of n (bubble p i j) := (bubble_perm p i j).trans h
noncomputable abbrev In (n : Nat) (i j : Nat) : Prop := i < n ∧ j < n ∧ i ≠ j
theorem Of.inn {n : Nat} {p : Array Nat} (h : Of n p) {i j : Nat} (hi : i < n) (hj : j < n) (hne : i ≠ j) : In n (at' p i) (at' p j) := by
  refine ⟨h.lt hi, h.lt hj, fun e => hne ?_⟩
  have hs := h.size
  have nd : p.toList.Nodup := (Array.perm_iff_toList_perm.mp h).nodup_iff.mpr (by simpa using List.nodup_range)
  have e1 : at' p i = p.toList[i]'(by simp; omega) := by unfold at'; simp [hs, hi]
  have e2 : at' p j = p.toList[j]'(by simp; omega) := by unfold at'; simp [hs, hj]
  rw [e1, e2] at e
  have pw := List.pairwise_iff_getElem.mp nd
  rcases Nat.lt_trichotomy i j with x | x | x
  · exact absurd e (pw i j (by simp; omega) (by simp; omega) x)
  · exact x
  · exact absurd e.symm (pw j i (by simp; omega) (by simp; omega) x)
section
variable {c : Nat → Nat → Bool} (O : Ord c) {n : Nat}
include O
theorem Ord.irr (i : Nat) : c i i = false := by
  cases h : c i i with
  | false => rfl
  | true => exact (O.asym i i h).symm.trans h ▸ rfl
theorem up_snoc {p : Array Nat} {m : Nat} (h : Up c p m) (h1 : 1 ≤ m) (e : c (at' p m) (at' p (m - 1)) = false) : Up c p (m + 1) := by
  intro i j hij hj
  rcases Nat.lt_or_ge j m with q | q
  · exact h i j hij q
  · have : j = m := by omega
    subst this
    rcases Nat.lt_or_ge i j with r | r
    · exact O.tr _ _ _ (h i (j - 1) (by omega) (by omega)) e
    · have : i = j := by omega
      subst this; exact O.irr _
theorem asc_path {p : Array Nat} (hp : Of n p) {G : Nat → Prop} : ∀ (f m : Nat), 1 ≤ m → m + f ≤ n → Up c p m → (∀ r, m ≤ r → r ≤ m + f → Up c p r → (r < m + f → c (at' p r) (at' p (r - 1)) = true) → G r) → Path (In n) c G (kas_asc p f m)
  | 0, m, _, _, h, g => g m (Nat.le_refl _) (Nat.le_refl _) h (fun q => absurd q (Nat.lt_irrefl _))
  | f + 1, m, h1, hn, h, g => by
    refine ⟨hp.inn (by omega) (by omega) (by omega), ?_⟩
    cases e : c (p.getD m 0) (p.getD (m - 1) 0) with
    | true => exact g m (Nat.le_refl _) (by omega) h (fun _ => e)
    | false => exact asc_path hp f (m + 1) (by omega) (by omega) (up_snoc O h h1 e) fun r a b u v => g r (by omega) (by omega) u (fun q => v (by omega))
noncomputable def Eqs (c : Nat → Nat → Bool) (p : Array Nat) (m q : Nat) : Prop := ∀ i j, m ≤ i + (q + 1) → m ≤ j + (q + 1) → i < m → j < m → c (at' p i) (at' p j) = false
omit O in
theorem dn_rev {p : Array Nat} {m q : Nat} (hm : m ≤ p.size) (d : Dn c p m) (e : Eqs c p m q) (hq : q + 1 ≤ m) : Dn c (kas_rev p (m - (q + 1)) m) m := by
  intro i j hij hj
  rw [at_rev hm, at_rev hm]
  by_cases a : m - (q + 1) ≤ i ∧ i < m <;> by_cases b : m - (q + 1) ≤ j ∧ j < m
  · rw [if_pos a, if_pos b]; exact e _ _ (by omega) (by omega) (by omega) (by omega)
  · exfalso; omega
  · rw [if_neg a, if_pos b]; exact d _ _ (by omega) (by omega)
  · rw [if_neg a, if_neg b]; exact d _ _ (by omega) (by omega)
theorem dn_snoc {p : Array Nat} {m : Nat} (h : Dn c p m) (h1 : 1 ≤ m) (e : c (at' p (m - 1)) (at' p m) = false) : Dn c p (m + 1) := by
  intro i j hij hj
  rcases Nat.lt_or_ge j m with q | q
  · exact h i j hij q
  · have : j = m := by omega
    subst this
    rcases Nat.lt_or_ge i j with r | r
    · exact O.tr _ _ _ e (h i (j - 1) (by omega) (by omega))
    · have : i = j := by omega
      subst this; exact O.irr _
theorem desc_path {G : Array Nat × Nat × Nat → Prop} : ∀ (f : Nat) (p : Array Nat) (m q : Nat), Of n p → 1 ≤ m → q + 1 ≤ m → m + f ≤ n → Dn c p m → Eqs c p m q → (∀ p' r q', Of n p' → 1 ≤ r → q' + 1 ≤ r → r ≤ n → Dn c p' r → Eqs c p' r q' → G (p', r, q')) →
    Path (In n) c G (kas_desc f p m q)
  | 0, p, m, q, hp, h1, hq, hn, d, e, g => g p m q hp h1 hq (by omega) d e
  | f + 1, p, m, q, hp, h1, hq, hn, d, e, g => by
    refine ⟨hp.inn (by omega) (by omega) (by omega), ?_⟩
    have hs := hp.size
    cases e1 : c (p.getD m 0) (p.getD (m - 1) 0) with
    | true =>
      have one : ∀ {p' : Array Nat} {m : Nat}, Eqs c p' (m + 1) 0 := fun {p' m} i j a b x y => by
        have : i = j := by omega
        subst this; exact O.irr _
      show Path (In n) c G (if q > 0 then _ else _)
      by_cases hq0 : q > 0
      · rw [if_pos hq0]
        have hd := dn_rev (hs ▸ (by omega : m ≤ n)) d e hq
        refine desc_path f _ (m + 1) 0 (hp.rev _ _) (by omega) (by omega) (by omega) (dn_snoc O hd h1 ?_) one g
        rw [at_rev (by omega), at_rev (by omega), if_pos (by omega), if_neg (by omega)]
        have a := e (m - (q + 1) + m - 1 - (m - 1)) (m - 1) (by omega) (by omega) (by omega) (by omega)
        exact O.tr _ _ _ (O.asym _ _ e1) a
      · rw [if_neg hq0]
        exact desc_path f p (m + 1) 0 hp (by omega) (by omega) (by omega) (dn_snoc O d h1 (O.asym _ _ e1)) one g
    | false =>
      show Path (In n) c G (.ask _ _ _)
      refine ⟨hp.inn (by omega) (by omega) (by omega), ?_⟩
      cases e2 : c (p.getD (m - 1) 0) (p.getD m 0) with
      | true => exact g p m q hp h1 hq (by omega) d e
      | false =>
        refine desc_path f p (m + 1) (q + 1) hp (by omega) (by omega) (by omega) (dn_snoc O d h1 e2) ?_ g
        intro i j a b x y
        have alike : ∀ k, m ≤ k + (q + 1) → k < m → c (at' p k) (at' p m) = false ∧ c (at' p m) (at' p k) = false := fun k u v =>
          ⟨O.tr _ _ _ e2 (e k (m - 1) u (by omega) v (by omega)), O.tr _ _ _ (e (m - 1) k (by omega) u (by omega) v) e1⟩
        rcases Nat.lt_or_ge i m with u | u <;> rcases Nat.lt_or_ge j m with v | v
        · exact e i j (by omega) (by omega) u v
        · have : j = m := by omega
          subst this; exact (alike i (by omega) u).1
        · have : i = m := by omega
          subst this; exact (alike j (by omega) v).2
        · have : i = j := by omega
          subst this; exact O.irr _
omit O in
theorem up_of_dn {p : Array Nat} {m : Nat} (hm : m ≤ p.size) (d : Dn c p m) : Up c (kas_rev p 0 m) m := by
  intro i j hij hj
  rw [at_rev hm, at_rev hm, if_pos (by omega), if_pos (by omega)]
  exact d _ _ (by omega) (by omega)
theorem tail3_path {p : Array Nat} (hp : Of n p) {m : Nat} (h1 : 1 ≤ m) (hm : m ≤ n) (d : Dn c p m) {G : Nat × Array Nat → Prop} (g : ∀ r p', Of n p' → r ≤ n → Up c p' r → G (r, p')) : Path (In n) c G (kas_tail3 m n p) := by
  have hs := hp.size
  exact Path.bind (asc_path O (hp.rev 0 m) _ m h1 (by omega) (up_of_dn (by omega) d) fun r a b u _ => g r _ (hp.rev 0 m) (by omega) u)
theorem descPart_path {p : Array Nat} (hp : Of n p) {m : Nat} (h1 : 1 ≤ m) (hm : m + 1 ≤ n) (d : Dn c p m) (e : c (at' p (m - 1)) (at' p m) = false) {G : Nat × Array Nat → Prop} (g : ∀ r p', Of n p' → r ≤ n → Up c p' r → G (r, p')) :
    Path (In n) c G (kas_descPart m n p) := by
  refine Path.bind (desc_path O _ p (m + 1) 0 hp (by omega) (by omega) (by omega) (dn_snoc O d h1 e) (fun i j a b x y => ?_) fun p' r q' hp' h1' hq' hr' d' e' => ?_)
  · have : i = j := by omega
    subst this; exact O.irr _
  · have hs := hp'.size
    show Path (In n) c G (if q' > 0 then _ else _)
    by_cases hq0 : q' > 0
    · rw [if_pos hq0]; exact tail3_path O (hp'.rev _ _) h1' hr' (dn_rev (by omega) d' e' hq') g
    · rw [if_neg hq0]; exact tail3_path O hp' h1' hr' d' g
theorem count_path {p : Array Nat} (hp : Of n p) (hn : 2 ≤ n) {G : Nat × Array Nat → Prop} (g : ∀ r p', Of n p' → r ≤ n → Up c p' r → G (r, p')) : Path (In n) c G (kas_count n p) := by
  have hs := hp.size
  have one : Up c p 1 := fun i j a b => by
    have : i = j := by omega
    subst this; exact O.irr _
  refine Path.bind (asc_path O hp (n - 1) 1 (Nat.le_refl _) (by omega) one fun r a b u v => ?_)
  by_cases hr : (r == n) = true
  · rw [if_pos hr]; exact g r p hp (by omega) u
  · rw [if_neg hr]
    have hrn : r ≠ n := by intro z; subst z; simp at hr
    have vr := v (by omega)
    by_cases h1 : r > 1
    · rw [if_pos h1]
      refine ⟨hp.inn (by omega) (by omega) (by omega), ?_⟩
      cases e : c (p.getD 0 0) (p.getD (r - 1) 0) with
      | true => exact g r p hp (by omega) u
      | false =>
        have all : ∀ i j, i < r → j < r → c (at' p i) (at' p j) = false := fun i j x y =>
          O.tr (at' p j) (at' p 0) (at' p i) (O.tr (at' p j) (at' p (r - 1)) (at' p 0) (u j (r - 1) (by omega) (by omega)) e) (u 0 i (by omega) x)
        refine descPart_path O (hp.rev 0 r) (by omega) (by omega) (fun i j x y => ?_) ?_ g
        · rw [at_rev (by omega), at_rev (by omega), if_pos (by omega), if_pos (by omega)]
          exact all _ _ (by omega) (by omega)
        · rw [at_rev (by omega), at_rev (by omega), if_pos (by omega), if_neg (by omega)]
          exact O.tr _ _ _ (O.asym _ _ vr) (all _ _ (by omega) (by omega))
    · rw [if_neg h1]
      have : r = 1 := by omega
      subst this
      refine descPart_path O hp (by omega) (by omega) (fun i j x y => ?_) (O.asym _ _ vr) g
      have : i = j := by omega
      subst this; exact O.irr _
theorem place_path {p : Array Nat} (hp : Of n p) {k : Nat} (hk : k < n) (u : Up c p k) {G : Nat → Prop} : ∀ (f l r : Nat), r - l ≤ f → l ≤ r → r ≤ k → (∀ i, i < l → c (at' p k) (at' p i) = false) → (∀ i, r ≤ i → i < k → c (at' p k) (at' p i) = true) →
    (∀ l, l ≤ k → (∀ i, i < l → c (at' p k) (at' p i) = false) → (∀ i, l ≤ i → i < k → c (at' p k) (at' p i) = true) → G l) → Path (In n) c G (kas_place p k f l r)
  | 0, l, r, hf, hlr, hr, lo, hi, g => by
    have : l = r := by omega
    subst this
    exact g l (by omega) lo hi
  | f + 1, l, r, hf, hlr, hr, lo, hi, g => by
    show Path (In n) c G (if l ≥ r then _ else _)
    by_cases h : l ≥ r
    · rw [if_pos h]
      have : l = r := by omega
      subst this
      exact g l (by omega) lo hi
    · rw [if_neg h]
      refine ⟨hp.inn (by omega) (by omega) (by omega), ?_⟩
      cases e : c (p.getD k 0) (p.getD ((l + r) / 2) 0) with
      | true =>
        refine place_path hp hk u f l ((l + r) / 2) (by omega) (by omega) (by omega) lo (fun i a b => ?_) g
        have q := u ((l + r) / 2) i a b
        cases z : c (at' p k) (at' p i) with
        | true => rfl
        | false => exact absurd (O.tr _ _ _ q z) (by rw [show c (at' p k) (at' p ((l + r) / 2)) = true from e]; simp)
      | false =>
        refine place_path hp hk u f ((l + r) / 2 + 1) r (by omega) (by omega) hr (fun i a => ?_) hi g
        rcases Nat.lt_or_ge i l with b | b
        · exact lo i b
        · exact O.tr _ _ _ (u i ((l + r) / 2) (by omega) (by omega)) e
theorem bin_path {G : Array Nat → Prop} : ∀ (f : Nat) (p : Array Nat) (k : Nat), Of n p → k + f = n → Up c p k → (∀ p', Of n p' → Up c p' n → G p') → Path (In n) c G (kas_bin f p k)
  | 0, p, k, hp, hk, u, g => by
    have : k = n := by omega
    subst this
    exact g p hp u
  | f + 1, p, k, hp, hk, u, g => by
    have hs := hp.size
    refine Path.bind (place_path O hp (by omega) u k 0 k (by omega) (by omega) (by omega) (fun i a => by omega) (fun i a b => by omega) fun l hl lo hi => ?_)
    refine bin_path f _ (k + 1) (hp.bub _ _) (by omega) (fun i j hij hj => ?_) g
    rw [at_bub (by omega) hl, at_bub (by omega) hl]
    by_cases a : i = l
    · rw [if_pos a]
      by_cases b : j = l
      · rw [if_pos b]; exact O.irr _
      · rw [if_neg b, if_pos (by omega)]
        exact O.asym _ _ (hi _ (by omega) (by omega))
    · rw [if_neg a]
      by_cases b : j = l
      · rw [if_pos b, if_neg (by omega)]
        exact lo _ (by omega)
      · rw [if_neg b]
        by_cases a' : l < i ∧ i ≤ k <;> by_cases b' : l < j ∧ j ≤ k
        · rw [if_pos a', if_pos b']; exact u _ _ (by omega) (by omega)
        · exfalso; omega
        · rw [if_neg a', if_pos b']; exact u _ _ (by omega) (by omega)
        · rw [if_neg a', if_neg b']; exact u _ _ (by omega) (by omega)
theorem sort_path (hn : 2 ≤ n) {G : Array Nat → Prop} (g : ∀ p, Of n p → Up c p n → G p) : Path (In n) c G (kas_sort n) := by
  refine Path.bind (count_path O (Array.Perm.refl _) hn fun r p' hp hr u => ?_)
  show Path (In n) c G (if r < n then _ else _)
  by_cases h : r < n
  · rw [if_pos h]
    have u' : Up c p' (max r 1) := by
      rcases Nat.eq_zero_or_pos r with z | z
      · subst z
        intro i j a b
        have : i = j := by omega
        subst this; exact O.irr _
      · rw [Nat.max_eq_left z]; exact u
    exact bin_path O _ p' _ hp (by omega) u' g
  · rw [if_neg h]
    have : r = n := by omega
    subst this; exact g p' hp u
end
end Srt
set_option Elab.async false
set_option linter.all false
set_option maxRecDepth 100000
set_option maxHeartbeats 4000000
namespace Srt
open PySem PySem.W PyProof.Rows
section
variable {prog : Program} {w : World} {A : Around} {E : Value → Shared → Prop} {s : Shared}
noncomputable def Kept (a : Addr) (h h' : Heap) : Prop := ∀ b o, b ≠ a → h.get? b = some o → h'.get? b = some o
structure Asks (prog : Program) (w : World) (A : Around) (vs : List Value) (c : Nat → Nat → Bool) (κ : SortKind) (s : Shared) : Prop where
  kind : ∀ (E : Value → Shared → Prop) (Q : SortKind → Shared → Prop), Q κ s → wpAny (model prog w) A (keyKind' vs.toArray) Q E s
  less : ∀ i j, In vs.length i j → ∀ (Q : Bool → Shared → Prop), Q (c i j) s → wpAny (model prog w) A (keyLt' κ (vs.getD i Value.none) (vs.getD j Value.none)) Q (fun _ _ => False) s
noncomputable abbrev outOf (vs : List Value) (p : Array Nat) : Array Value := List.toArray (p.toList.map fun i => vs.getD i Value.none)
theorem range_getD (vs : List Value) : ((List.range vs.length).map fun i => vs.getD i Value.none) = vs := by
  refine List.ext_getElem (by simp) fun i h1 h2 => ?_
  simp at h1
  simp [h1]
theorem list_sort_by {a : Addr} {vs : List Value} {n : Nat} {P : PySem.Fin → Shared → Prop} {c : Nat → Nat → Bool} (O : Ord c) {κ : SortKind} (at0 : s.heap.get? a = some (seqObj "list" vs.toArray n)) (few : vs.length < 64)
    (ak : 2 ≤ vs.length → ∀ h' : Heap, Kept a s.heap h' → Asks prog w A vs c κ { s with heap := h' })
    (fin : ∀ p : Array Nat, Of vs.length p → Up c p vs.length → P (.done (.ret .none)) { s with heap := sortedHeap s.heap a vs (outOf vs p) }) : wpAny (model prog w) A (Builtin.«list.sort» ⟨[.ref a], []⟩) P E s := by
  rw [list_sort_plain]
  have la : a < s.heap.objs.size := Heap.lt_size at0
  refine wpAny_bind (listItems_at at0 rfl (wpAny_bind (listUpdate_at at0 rfl ?_ (by rw [List.size_toArray, sizeLine_eq]; omega) (Nat.zero_le _))))
  obtain ⟨e1, at1⟩ : ∃ e1, (s.heap.update a (Obj.mapSeq fun _ => (#[] : Array Value))).get? a = some (seqObj "list" #[] e1) := ⟨_, get?_update_seq at0 fun _ => #[]⟩
  refine wpAny_bind (seqEpoch_at at1 rfl (wpAny_bind (wpAny_newTuple (wpAny_bind (wpAny_newList (wpAny_holding ?_))) (by rw [sizeLine_eq]; simp; omega))))
  have at2 : (((s.heap.update a (Obj.mapSeq fun _ => (#[] : Array Value))).push (seqObj "tuple" vs.toArray 0)).push (seqObj "list" #[] 0)).get? a = some (seqObj "list" #[] e1) := Heap.get?_push_of_some _ (Heap.get?_push_of_some _ at1)
  have kp : Kept a s.heap (((s.heap.update a (Obj.mapSeq fun _ => (#[] : Array Value))).push (seqObj "tuple" vs.toArray 0)).push (seqObj "list" #[] 0)) := fun b o nb e =>
    Heap.get?_push_of_some _ (Heap.get?_push_of_some _ ((Heap.get?_update_ne _ _ _ _ nb).trans e))
  show wpAny (model prog w) A _ P E { s with heap := ((s.heap.update a (Obj.mapSeq fun _ => (#[] : Array Value))).push (seqObj "tuple" vs.toArray 0)).push (seqObj "list" #[] 0) }
  dsimp only
  have zz : vs.toArray.size = vs.length := by simp
  by_cases few2 : vs.toArray.size < 2
  · rw [if_pos few2, if_pos few2]
    refine wpAny_bind (wpAny_pure ?_)
    rw [StateT.run_pure]
    refine wpAny_bind (wpAny_pure (wpAny_bind (seqEpoch_at at2 rfl (wpAny_bind (listUpdate_at at2 rfl ?_ (by simp) (by show (Array.map _ (vs.toArray.zip vs.toArray)).size ≤ _; simp; rw [sizeLine_eq]; omega))))))
    simp only [bne_self_eq_false, Bool.false_eq_true, if_false]
    have eo : outOf vs (List.toArray (List.range vs.length)) = Array.map (·.2) (vs.toArray.zip vs.toArray) := by
      apply Array.toList_inj.mp
      show (List.range vs.length).map _ = _
      rw [range_getD, Array.toList_map]
      simp only [Array.toList_zip]
      exact (List.map_snd_zip (Nat.le_refl _)).symm
    have := fin (List.toArray (List.range vs.length)) (Array.Perm.refl _) (fun i j x y => by
      have : i = j := by omega
      subst this; exact O.irr _)
    rw [eo] at this
    exact wpAny_pure this
  · rw [if_neg few2, if_neg few2]
    have K := ak (by omega) _ kp
    refine wpAny_bind (K.kind _ _ ?_)
    refine wpAny_bind (wpAny_mono (kat_run (vs := vs) (ks := vs) (Q := fun st' s' => s' = { s with heap := ((s.heap.update a (Obj.mapSeq fun _ => (#[] : Array Value))).push (seqObj "tuple" vs.toArray 0)).push (seqObj "list" #[] 0) } ∧ failedOf st' = none ∧ ∃ p, Of vs.length p ∧ Up c p vs.length ∧ (arrOf st').map (·.2) = outOf vs p)
      (G := fun p s' => s' = { s with heap := ((s.heap.update a (Obj.mapSeq fun _ => (#[] : Array Value))).push (seqObj "tuple" vs.toArray 0)).push (seqObj "list" #[] 0) } ∧ Of vs.length p ∧ Up c p vs.length) rfl (by omega) few (fun p st' s' _ har hf ⟨es, o1, o2⟩ => ⟨es, hf, p, o1, o2, kat_snds rfl har⟩) ?_) ?_ fun _ _ e => e)
    · exact Path.wp (fun i j C v hC => K.less i j v C hC) (fun p hp => ⟨rfl, hp⟩) (sort_path O (by omega) (G := fun p => Of vs.length p ∧ Up c p vs.length) fun p a b => ⟨a, b⟩)
    · rintro ⟨⟨⟩, st'⟩ s' ⟨rfl, hf, p, o1, o2, eo⟩
      dsimp only
      refine wpAny_bind (seqEpoch_at at2 rfl (wpAny_bind (listUpdate_at at2 rfl ?_ (by simp) (by rw [eo]; show (outOf vs p).size ≤ _; simp; rw [o1.size, sizeLine_eq]; omega))))
      rw [hf]
      simp only [bne_self_eq_false, Bool.false_eq_true, if_false]
      have := fin p o1 o2
      rw [← eo] at this
      exact wpAny_pure this
end
end Srt
set_option Elab.async false
set_option linter.all false
set_option maxRecDepth 100000
set_option maxHeartbeats 4000000
namespace Srt
open PySem PySem.W PyProof.Rows
section
variable {prog : Program} {w : World} {A : Around} {E : Value → Shared → Prop} {s : Shared}
noncomputable def Told (prog : Program) (w : World) (A : Around) (Q : Value → Shared → Prop) (vs : List Value) (s1 : Shared) : Prop :=
  vs.length < 64 ∧ ∃ c κ, Ord c ∧ (2 ≤ vs.length → ∀ h' : Heap, (∀ b o, s1.heap.get? b = some o → h'.get? b = some o) → Asks prog w A vs c κ { s1 with heap := h' }) ∧
    ∀ p e (h' : Heap), Of vs.length p → Up c p vs.length → (∀ b o, s1.heap.get? b = some o → h'.get? b = some o) → h'.get? s1.heap.objs.size = some (seqObj "list" (outOf vs p) e) → Q (.ref s1.heap.objs.size) { s1 with heap := h' }
theorem sorted_by {x : Value} {Q : Value → Shared → Prop} (col : wpAny (model prog w) A.in1 (collect x) (Told prog w A.in1.in1 Q) E s) : wpAny (model prog w) A (call (.builtin "sorted") [x]) Q E s := by
  refine Calls.call_function_entry kind_sorted plain_sorted entry_sorted (args_sorted1 _) ?_
  unfold Builtin.«sorted»
  refine wpAny_bind (m := checkCount "sorted" 1 1 _) (wpAny_pure (wpAny_bind (wpAny_mono col (fun vs s1 told => ?_) fun _ _ e => e)))
  obtain ⟨few, c, κ, O, ak, fin⟩ := told
  refine wpAny_bind (wpAny_newList ?_ (by rw [sizeLine_eq]; omega))
  have at0 : (s1.heap.push (seqObj "list" vs.toArray 0)).get? s1.heap.objs.size = some (seqObj "list" vs.toArray 0) := Heap.get?_push_size _ rfl
  refine wpAny_bind (wpAny_holding (wpAny_call_entry slot_list_sort ⟨_, at0, rfl⟩ entry_list_sort (list_sort_by (s := { s1 with heap := s1.heap.push (seqObj "list" vs.toArray 0) }) O at0 few (fun h2 h' kp => ak h2 h' fun b o e => kp b o (Nat.ne_of_lt (Heap.lt_size e)) (Heap.get?_push_of_some _ e)) fun p o1 o2 => ⟨_, rfl, wpAny_pure ⟨_, rfl, ?_⟩⟩) (args_list_sort _)))
  obtain ⟨e, he⟩ := sortedHeap_at (out := outOf vs p) at0
  refine fin p e _ o1 o2 (fun b o q => ?_) he
  have lt := Heap.lt_size q
  rw [sortedHeap_old (Nat.ne_of_lt lt) (by show b < (s1.heap.push _).objs.size; rw [size_push']; exact Nat.lt_succ_of_lt lt)]
  exact Heap.get?_push_of_some _ q
end
end Srt
set_option Elab.async false
set_option linter.all false
set_option maxRecDepth 100000
set_option maxHeartbeats 4000000
namespace DI
open PySem PySem.W PyProof.Rows
noncomputable def DEnt (h : Heap) (d : Addr) (es : Array DictEntry) (ep : Nat) : Prop := ∃ o, h.get? d = some o ∧ o.ExactDict ∧ o.data = .dict es ep
theorem DEnt.ty {s : Shared} {d : Addr} {es : Array DictEntry} {ep : Nat} (x : DEnt s.heap d es ep) : s.TypeIs (.ref d) "dict" := let ⟨o, e, c, _⟩ := x; ⟨o, e, c.1⟩
theorem DEnt.at {h h' : Heap} {d : Addr} {es : Array DictEntry} {ep : Nat} (x : DEnt h d es ep) (k : ∀ o, h.get? d = some o → h'.get? d = some o) : DEnt h' d es ep := let ⟨o, e, c⟩ := x; ⟨o, k o e, c⟩
section
variable {prog : Program} {w : World} {A : Around} {E : Value → Shared → Prop} {s : Shared} {it d : Addr} {es : Array DictEntry} {i ep : Nat}
theorem view_items (hd : (d == sysModules) = false) : MeetsIn prog w (Builtin.«dict.items» ⟨[.ref d], []⟩) (fun _ R s => (∃ es ep, DEnt s.heap d es ep) ∧ R (.ok (.ret (.ref s.heap.objs.size))) { s with heap := s.heap.push { cls := .type "dict_items", data := .fields #[.ref d] } }) :=
  .of_wp fun A R s ⟨⟨es, ep, de⟩, h⟩ => by
    unfold Builtin.«dict.items» Builtin.Dict.noArgs
    refine wpAny_bind (wpAny_bind (wpAny_notOrdered_dict de.ty ?_))
    show wpAny _ _ (pure d) _ _ s
    refine wpAny_pure ?_
    show wpAny _ _ (Builtin.Dict.showsAll d >>= _) _ _ s
    unfold Builtin.Dict.showsAll
    rw [if_neg (by rw [hd]; exact Bool.false_ne_true)]
    exact wpAny_bind (wpAny_pure (wpAny_bind (wpAny_newObj_type (wpAny_pure ⟨_, rfl, h⟩))))
theorem item_iter {v : Addr} {Q : Value → Shared → Prop} (vw : s.heap.IsItemsView v d) (de : DEnt s.heap d es ep) (fin : ∀ h', IsItemIter h' s.heap.objs.size d 0 es.size ep .none .none → (∀ b o, s.heap.get? b = some o → h'.get? b = some o) → Q (.ref s.heap.objs.size) { s with heap := h' }) : wpAny (model prog w) A (pyIter (.ref v)) Q E s := by
  obtain ⟨ov, gv, cv, fv⟩ := id vw
  obtain ⟨od, gd, xd, dd⟩ := id de
  refine wpAny_pyIter_slot vw.typeIs F.slot_dict_items_iter (wpAny_call_entry F.slot_dict_items_iter vw.typeIs F.entry_dict_items_iter ?_ (F.args_dict_items_iter_1 _))
  unfold Builtin.«dict_items.__iter__» Builtin.Dict_items.dictOf Builtin.Dict_items.newIterator
  refine wpAny_bind (wpAny_pure (wpAny_bind (wpAny_bind (wpAny_field gv fv (x := .ref d) rfl (wpAny_pure (wpAny_bind (wpAny_bind (wpAny_dictEntries gd dd (wpAny_bind (wpAny_dictEpoch gd dd ?_))))))))))
  simp only [show Builtin.Dict_items.ownsTuple "dict_itemiterator" = true by decide, if_true]
  refine wpAny_newObj_type (wpAny_pure ⟨_, rfl, "dict_itemiterator", _, ⟨_, Heap.get?_push_size _ rfl, rfl⟩, F.slot_dict_itemiterator_next.lookup, fin _ ?_ fun b o e => Heap.get?_push_of_some _ e⟩) (by simp only [sizeOk, Builtin.Dict_items.ownedTupleFields, List.size_toArray, List.length_append, List.length_cons, List.length_nil, sizeLine_eq]; omega)
  exact Heap.get?_push_size _ rfl
noncomputable def ItAt (h : Heap) (it d : Addr) (i n ep : Nat) : Prop := ∃ f0 f1 ok ov, h.get? it = some { cls := .type "dict_itemiterator", dict := none, data := .fields #[f0, f1, .ref d, .int i 0, .int n 0, .int ep 0, ok, ov], slots := #[] } ∧ (f0 = .none ∨ ∃ a, f0 = .int a 0)
theorem ItAt.ty {s : Shared} {it d : Addr} {i n ep : Nat} (x : ItAt s.heap it d i n ep) : s.TypeIs (.ref it) "dict_itemiterator" := let ⟨_, _, _, _, e, _⟩ := x; ⟨_, e, rfl⟩
theorem ItAt.at {h h' : Heap} {it d : Addr} {i n ep : Nat} (x : ItAt h it d i n ep) (k : ∀ o, h.get? it = some o → h'.get? it = some o) : ItAt h' it d i n ep := let ⟨a, b, c, e, q, r⟩ := x; ⟨a, b, c, e, k _ q, r⟩
theorem it_free {i n : Nat} {Q : Bool → Shared → Prop} (ii : ItAt s.heap it d i n ep) (fin : ∀ b h', ItAt h' it d i n ep → Heap.SameBut it s.heap h' → Q b { s with heap := h' }) : wpAny (model prog w) A (Builtin.Dict_items.ownedTupleIsFree (.ref it)) Q E s := by
  obtain ⟨f0, f1, ok, ov, gi, c0⟩ := ii
  have same : Heap.SameBut it s.heap s.heap := ⟨rfl, fun _ _ => rfl⟩
  unfold Builtin.Dict_items.ownedTupleIsFree
  refine wpAny_bind (wpAny_field gi rfl (x := f0) rfl ?_)
  rcases c0 with rfl | ⟨a, rfl⟩
  · exact wpAny_pure (fin _ _ ⟨_, _, _, _, gi, .inl rfl⟩ same)
  · show wpAny _ _ (loadIfAlive a.toNat >>= _) _ _ s
    refine wpAny_bind ?_
    have al : ∀ {Q : Option Obj → Shared → Prop}, Q (s.heap.get? a.toNat) s → wpAny (model prog w) A (loadIfAlive a.toNat) Q E s := fun hQ _ _ _ => hQ
    refine al ?_
    cases e : s.heap.get? a.toNat with
    | none => exact wpAny_pure (fin _ _ ⟨_, _, _, _, gi, .inr ⟨a, rfl⟩⟩ same)
    | some o =>
      show wpAny _ _ (field (.ref it) 1 >>= _) _ _ s
      refine wpAny_bind (wpAny_field gi rfl (x := f1) rfl ?_)
      by_cases e1 : (f1 != Value.bool true) = true
      · rw [if_pos e1]
        exact wpAny_bind (wpAny_setField_rec gi (by simp) fun g1 z1 s1 => wpAny_pure (fin _ g1 ⟨_, _, _, _, z1, .inr ⟨a, rfl⟩⟩ s1))
      · rw [if_neg e1]
        exact wpAny_pure (fin _ _ ⟨_, _, _, _, gi, .inr ⟨a, rfl⟩⟩ same)
theorem it_set {i n k : Nat} {v : Value} {Q : Unit → Shared → Prop} (ii : ItAt s.heap it d i n ep) (hk : k = 1 ∨ k = 6 ∨ k = 7 ∨ (k = 0 ∧ (v = .none ∨ ∃ a, v = .int a 0))) (fin : ∀ h', ItAt h' it d i n ep → Heap.SameBut it s.heap h' → Q () { s with heap := h' }) : wpAny (model prog w) A (setField (.ref it) k v) Q E s := by
  obtain ⟨f0, f1, ok, ov, gi, c0⟩ := ii
  rcases hk with rfl | rfl | rfl | ⟨rfl, hv⟩
  · exact wpAny_setField_rec gi (by simp) fun g1 z1 s1 => fin g1 ⟨_, _, _, _, z1, c0⟩ s1
  · exact wpAny_setField_rec gi (by simp) fun g1 z1 s1 => fin g1 ⟨_, _, _, _, z1, c0⟩ s1
  · exact wpAny_setField_rec gi (by simp) fun g1 z1 s1 => fin g1 ⟨_, _, _, _, z1, c0⟩ s1
  · exact wpAny_setField_rec gi (by simp) fun g1 z1 s1 => fin g1 ⟨_, _, _, _, z1, hv⟩ s1
theorem it_field {i n k : Nat} {Q : Value → Shared → Prop} (ii : ItAt s.heap it d i n ep) (hk : k = 6 ∨ k = 7) (fin : ∀ v, Q v s) : wpAny (model prog w) A (field (.ref it) k) Q E s := by
  obtain ⟨f0, f1, ok, ov, gi, c0⟩ := ii
  rcases hk with rfl | rfl
  · exact wpAny_field gi rfl (x := ok) rfl (fin _)
  · exact wpAny_field gi rfl (x := ov) rfl (fin _)
theorem sb_trans {a : Addr} {h1 h2 h3 : Heap} (x : Heap.SameBut a h1 h2) (y : Heap.SameBut a h2 h3) : Heap.SameBut a h1 h3 := ⟨y.1.trans x.1, fun b hb => (y.2 b hb).trans (x.2 b hb)⟩
theorem pair_own {i n : Nat} {x y : Value} {Q : Value → Shared → Prop} (ii : ItAt s.heap it d i n ep)
    (fin : ∀ h', ItAt h' it d i n ep → h'.get? s.heap.objs.size = some { cls := .type "tuple", data := .seq #[x, y] } → h'.objs.size = s.heap.objs.size + 1 → (∀ b o, b ≠ it → s.heap.get? b = some o → h'.get? b = some o) → Q (.ref s.heap.objs.size) { s with heap := h' }) :
    wpAny (model prog w) A (Builtin.Dict_items.pairFromOwner (.ref it) 6 x y) Q E s := by
  unfold Builtin.Dict_items.pairFromOwner
  have li : it < s.heap.objs.size := let ⟨_, _, _, _, e, _⟩ := ii; Heap.lt_size e
  refine wpAny_bind (wpAny_newTuple ?_)
  have i1 : ItAt (s.heap.push { cls := .type "tuple", data := .seq #[x, y] }) it d i n ep := ii.at fun o e => Heap.get?_push_of_some _ e
  have fin' : ∀ h', ItAt h' it d i n ep → Heap.SameBut it (s.heap.push { cls := .type "tuple", data := .seq #[x, y] }) h' → Q (.ref s.heap.objs.size) { s with heap := h' } := fun h' a b =>
    fin h' a ((b.2 _ (Nat.ne_of_gt li)).trans (Heap.get?_push_size _ rfl)) (by rw [b.1, Heap.size_push]) fun c o hc e => (b.2 c hc).trans (Heap.get?_push_of_some _ e)
  refine wpAny_bind (it_free (s := { s with heap := s.heap.push { cls := .type "tuple", data := .seq #[x, y] } }) i1 fun b h2 i2 s2 => ?_)
  cases b with
  | false => exact wpAny_pure (fin' h2 i2 s2)
  | true =>
    refine wpAny_bind (it_field (s := { s with heap := h2 }) i2 (.inl rfl) fun v1 => wpAny_bind (it_field (s := { s with heap := h2 }) i2 (.inr rfl) fun v2 => ?_))
    refine wpAny_bind (it_set (s := { s with heap := h2 }) i2 (.inr (.inl rfl)) fun h3 i3 s3 => ?_)
    refine wpAny_bind (it_set (s := { s with heap := h3 }) i3 (.inr (.inr (.inl rfl))) fun h4 i4 s4 => ?_)
    refine wpAny_bind (it_set (s := { s with heap := h4 }) i4 (.inr (.inr (.inr ⟨rfl, .inr ⟨_, rfl⟩⟩))) fun h5 i5 s5 => ?_)
    refine wpAny_bind (it_set (s := { s with heap := h5 }) i5 (.inl rfl) fun h6 i6 s6 => ?_)
    exact wpAny_bind (wpAny_letGo (wpAny_pure (fin' h6 i6 (sb_trans s2 (sb_trans s3 (sb_trans s4 (sb_trans s5 s6)))))))
theorem item_next {Q : Option Value → Shared → Prop} (ii : ItAt s.heap it d i es.size ep) (de : DEnt s.heap d es ep) (li : i < es.size)
    (fin : ∀ h', ItAt h' it d (i + 1) es.size ep → h'.get? s.heap.objs.size = some { cls := .type "tuple", data := .seq #[es[i].key, es[i].val] } → h'.objs.size = s.heap.objs.size + 1 → (∀ b o, b ≠ it → s.heap.get? b = some o → h'.get? b = some o) → Q (some (.ref s.heap.objs.size)) { s with heap := h' }) :
    wpAny (model prog w) A (pyNext (.ref it)) Q E s := by
  have ti := ii.ty
  obtain ⟨f0, f1, ok, ov, gi, c0⟩ := id ii
  obtain ⟨od, gd, xd, dd⟩ := de
  unfold pyNext
  refine wpAny_bind (wpAny_attempt (wpAny_callSpecial?_slot (name := Str.ofString "__next__") ti F.slot_dict_itemiterator_next (wpAny_call_entry F.slot_dict_itemiterator_next ti F.entry_dict_itemiterator_next (wpAny_bind (wpAny_pure (wpAny_bind (wpAny_bind ?_)))) (F.args_dict_itemiterator_next_1 _))))
  refine wpAny_bind (wpAny_typeNameOfWhole_itemiter ti (wpAny_pure (wpAny_bind (wpAny_fieldsOf gi rfl ?_))))
  simp only [show Builtin.Dict_items.ownsTuple "dict_itemiterator" = true by decide, if_true]
  show wpAny _ _ (if (Value.ref d == Value.none) = true then _ else _) _ _ s
  rw [if_neg (show ¬ ((Value.ref d == Value.none) = true) from Bool.false_ne_true)]
  refine wpAny_bind (wpAny_pure (wpAny_bind (wpAny_dictEntries gd dd ?_)))
  rw [if_neg (by simp)]
  refine wpAny_bind (wpAny_pure (wpAny_bind (wpAny_dictEpoch gd dd ?_)))
  rw [if_neg (by simp)]
  refine wpAny_pure ?_
  simp only [show ¬ ((i : Int) < 0) from by omega, if_false, Int.toNat_natCast, Array.getElem?_eq_getElem li]
  refine wpAny_bind (wpAny_bind (wpAny_typeNameOfWhole_itemiter ti (wpAny_pure (wpAny_bind (wpAny_isOneOf_itemiter ti ?_)))))
  show wpAny _ _ (setField (.ref it) 3 (rawInt ((i : Int) + 1)) >>= _) _ _ s
  refine wpAny_bind (wpAny_setField_rec gi (by simp) fun h1 z1 s1 => ?_)
  have i1 : ItAt h1 it d (i + 1) es.size ep := by
    have e : ((i + 1 : Nat) : Int) = (i : Int) + 1 := by omega
    refine ⟨f0, f1, ok, ov, ?_, c0⟩
    rw [e]; simpa [rawInt] using z1
  have t1 : Shared.TypeIs { s with heap := h1 } (.ref it) "dict_itemiterator" := ItAt.ty (s := { s with heap := h1 }) i1
  refine wpAny_bind (wpAny_holding (wpAny_bind (wpAny_isOneOf_itemiter t1 (wpAny_bind (wpAny_isOneOf_itemiter t1 ?_)))))
  show wpAny _ _ (Builtin.Dict_items.pairFromOwner (.ref it) 6 es[i].key es[i].val) _ _ { s with heap := h1 }
  have z1 : h1.objs.size = s.heap.objs.size := s1.1
  refine pair_own (s := { s with heap := h1 }) i1 fun h2 i2 T2 sz2 k2 => wpAny_pure ⟨_, rfl, wpAny_pure ?_⟩
  have F := fin h2 i2 (z1 ▸ T2) (z1 ▸ sz2) fun b o hb e => k2 b o hb ((s1.2 b hb).trans e)
  show Q (some (.ref h1.objs.size)) _
  rw [z1]; exact F
theorem item_end {Q : Option Value → Shared → Prop} (hh : A.handled = none) (ii : ItAt s.heap it d i es.size ep) (de : DEnt s.heap d es ep) (li : es.size ≤ i) (fin : ∀ h', Heap.ExtBut it s.heap h' → Q none { s with heap := h' }) :
    wpAny (model prog w) A (pyNext (.ref it)) Q E s := by
  have ti := ii.ty
  obtain ⟨f0, f1, ok, ov, gi, c0⟩ := id ii
  obtain ⟨od, gd, xd, dd⟩ := de
  unfold pyNext
  refine wpAny_bind (wpAny_attempt (wpAny_callSpecial?_slot (name := Str.ofString "__next__") ti F.slot_dict_itemiterator_next (wpAny_call_entry F.slot_dict_itemiterator_next ti F.entry_dict_itemiterator_next (wpAny_bind (wpAny_pure (wpAny_bind (wpAny_bind ?_)))) (F.args_dict_itemiterator_next_1 _))))
  refine wpAny_bind (wpAny_typeNameOfWhole_itemiter ti (wpAny_pure (wpAny_bind (wpAny_fieldsOf gi rfl ?_))))
  simp only [show Builtin.Dict_items.ownsTuple "dict_itemiterator" = true by decide, if_true]
  show wpAny _ _ (if (Value.ref d == Value.none) = true then _ else _) _ _ s
  rw [if_neg (show ¬ ((Value.ref d == Value.none) = true) from Bool.false_ne_true)]
  refine wpAny_bind (wpAny_pure (wpAny_bind (wpAny_dictEntries gd dd ?_)))
  rw [if_neg (by simp)]
  refine wpAny_bind (wpAny_pure (wpAny_bind (wpAny_dictEpoch gd dd ?_)))
  rw [if_neg (by simp)]
  refine wpAny_pure ?_
  simp only [show ¬ ((i : Int) < 0) from by omega, if_false, Int.toNat_natCast, Array.getElem?_eq_none li]
  refine wpAny_bind (wpAny_bind (wpAny_typeNameOfWhole_itemiter ti (wpAny_pure ?_)))
  show wpAny _ _ (setField (.ref it) 2 .none >>= _) _ _ s
  refine wpAny_bind (wpAny_setField gi rfl (by simp) ?_)
  show wpAny _ _ (newExc (.type "StopIteration") [] >>= _) _ _ _
  refine wpAny_bind ?_
  simp only [newExc, newTuple]
  refine wpAny_bind (wpAny_newObj_type (wpAny_bind (m := firstArgMember _ _) (wpAny_of_eq (a := Value.none) (by first | rfl | (simp only [firstArgMember]; rfl)) (wpAny_newObj_type ?_ (by size_fits)))) (by size_fits))
  simp only [raiseNew]
  refine wpAny_bind (wpAny_handled ?_)
  rw [show A.in1.handled = none from hh]
  refine wpAny_bind (wpAny_pure (wpAny_throw ?_))
  refine wpAny_bind (wpAny_isInstance (T := "StopIteration") (b := true) ⟨_, Heap.get?_push_size _ rfl, rfl⟩ isSubtype_stop (wpAny_pure (fin _ ?_)))
  exact ((Heap.SameBut.update ..).extBut.push _).push _
theorem item_go {elts : List Expr} {x1 : _} {pos : Pos} {i n : Nat} {a : Addr} {Q : Unit → Shared → Prop} (ii : ItAt s.heap it d i n ep) (fin : ∀ h', ItAt h' it d i n ep → Heap.SameBut it s.heap h' → Q () { s with heap := h' }) :
    wpAny (model prog w) A (letOwnedTupleGo (.Tuple elts x1 pos) (.ref it) (.ref a)) Q E s := by
  obtain ⟨f0, f1, ok, ov, gi, c0⟩ := id ii
  unfold letOwnedTupleGo
  refine wpAny_bind (wpAny_load gi ?_)
  show wpAny _ _ (if (["enumerate", "zip", "dict_itemiterator", "dict_reverseitemiterator", "odict_iterator", "itertools.zip_longest", "itertools.pairwise"].contains "dict_itemiterator" && (#[f0, f1, .ref d, .int i 0, .int n 0, .int ep 0, ok, ov] : Array Value)[0]? == some (rawInt a)) = true then _ else _) Q E s
  by_cases hc : (["enumerate", "zip", "dict_itemiterator", "dict_reverseitemiterator", "odict_iterator", "itertools.zip_longest", "itertools.pairwise"].contains "dict_itemiterator" && (#[f0, f1, .ref d, .int i 0, .int n 0, .int ep 0, ok, ov] : Array Value)[0]? == some (rawInt a)) = true
  · rw [if_pos hc]
    refine wpAny_bind (wpAny_rule ?_)
    show wpAny _ _ (setField (.ref it) 0 .none) Q E s
    exact it_set ii (.inr (.inr (.inr ⟨rfl, .inl rfl⟩))) fin
  · rw [if_neg hc]
    exact wpAny_pure (fin _ ii ⟨rfl, fun _ _ => rfl⟩)
end
end DI
set_option Elab.async false
set_option linter.all false
set_option maxRecDepth 100000
set_option maxHeartbeats 4000000
namespace DI
open PySem PySem.W PyProof.Rows
section
variable {prog : Program} {w : World} {A : Around} {d r : Addr} {es : Array DictEntry} {ep : Nat}
theorem DEnt.lt {h : Heap} (x : DEnt h d es ep) : d < h.objs.size := let ⟨_, e, _⟩ := x; Heap.lt_size e
end
end DI
set_option Elab.async false
set_option linter.all false
set_option maxRecDepth 100000
set_option maxHeartbeats 4000000
namespace L2
open PySem PySem.W PySem.Spec PyProof.Rows DI
noncomputable def EntT (H : Hp) (kvs : List (List Key × V)) (es : Array DictEntry) : Prop :=
  Paired (fun (p : List Key × V) (e : DictEntry) => ∃ b, e.key = .ref b ∧ H b = some (.tup (p.1.map kV)) ∧ RelV p.2 e.val) kvs es.toList
theorem EntT.size {H : Hp} {kvs : List (List Key × V)} {es : Array DictEntry} (h : EntT H kvs es) : es.size = kvs.length := by have := Paired.length h; simpa using this.symm
theorem EntT.at {H : Hp} {kvs : List (List Key × V)} {es : Array DictEntry} (h : EntT H kvs es) {i : Nat} {e : DictEntry} (q : es[i]? = some e) : ∃ kv b, kvs[i]? = some kv ∧ e.key = .ref b ∧ H b = some (.tup (kv.1.map kV)) ∧ RelV kv.2 e.val := by
  have : ∀ {l : List (List Key × V)} {m : List DictEntry}, Paired (fun (p : List Key × V) (e : DictEntry) => ∃ b, e.key = .ref b ∧ H b = some (.tup (p.1.map kV)) ∧ RelV p.2 e.val) l m → ∀ {i : Nat} {e}, m[i]? = some e → ∃ kv b, l[i]? = some kv ∧ e.key = .ref b ∧ H b = some (.tup (kv.1.map kV)) ∧ RelV kv.2 e.val := by
    intro l m r
    induction r with
    | nil => intro i e q; simp at q
    | @cons p q ps qs hq t ih =>
      intro i e z
      cases i with
      | zero => simp at z; subst z; obtain ⟨b, h1, h2, h3⟩ := hq; exact ⟨p, b, rfl, h1, h2, h3⟩
      | succ i => simpa using ih (by simpa using z)
  exact this h (by rw [Array.getElem?_toList]; exact q)
theorem Inv.entT {X : Cx} {pins : List (Addr × Obj)} {σ : St} {H : Hp} {s : Shared} {d : Addr} {kvs : List (List Key × V)} (I : Inv X pins σ H s) (h : Rd H d (.dT kvs)) : (d == sysModules) = false ∧ kvs.length ≤ sizeLine ∧ (kvs.map (·.1)).Nodup ∧ ∃ es ep, DEnt s.heap d es ep ∧ EntT H kvs es := by
  obtain ⟨z, y, xs, r, o, es, ep, h1, h2, h3, h4, h5⟩ := (show ObjOk X.prog X.w H s.heap d (.dT kvs) from rd_of I.hok h)
  have ek : kvs.map (·.1) = xs.map (·.1) := by
    clear h4 h5 z h
    induction r with
    | nil => rfl
    | @cons p q ps qs hq t ih => rw [List.map_cons, List.map_cons, hq.1, ih]
  refine ⟨y, z, by rw [ek]; exact h5, es, ep, ⟨o, h1, h2, h3⟩, ?_⟩
  unfold EntT
  rw [h4]
  clear h4 h5 ek z h
  induction r with
  | nil => exact .nil
  | @cons p q ps qs hq t ih => exact .cons ⟨q.2.1, rfl, hq.2.1, hq.2.2⟩ ih
structure Prd (H H' : Hp) (kvs : List (List Key × V)) (as : List Addr) : Prop where
  same : Same H H'
  nodup : as.Nodup
  new : ∀ a ∈ as, H a = none
  at_ : ∀ (j : Nat) (a : Addr), as[j]? = some a → ∃ (kv : List Key × V) (b : Addr), kvs[j]? = some kv ∧ H b = some (.tup (kv.1.map kV)) ∧ H' a = some (.tup [.ref b, kv.2])
section
variable {X : Cx} {pins : List (Addr × Obj)} {σ : St} {A : Around} {R : Result → Shared → Prop} {it S d : Addr} {es : Array DictEntry} {ep : Nat} {kvs : List (List Key × V)} {H0 : Hp} {res : Value}
theorem items_loop (hh : A.handled = none) (e0 : EntT H0 kvs es) (few : es.size ≤ sizeLine) (hS : S ≠ it) (hd : d ≠ S) (hd2 : d ≠ it)
    (fin : ∀ (s' : Shared) H' as (acc : Array Value) c, Inv X pins σ H' s' → Prd H0 H' kvs as → as.length = kvs.length → acc.toList = as.map Value.ref → s'.heap.get? S = some { cls := .type "list", dict := none, data := .seq acc c, slots := #[] } → H' S = none → R (.ok (.ret res)) s') :
    ∀ (k i : Nat) (s : Shared) (H : Hp) (as : List Addr) (acc : Array Value) (c : Nat), es.size - i = k → i ≤ es.size → Inv X pins σ H s → FpOk X pins H it → FpOk X pins H S → ItAt s.heap it d i es.size ep → DEnt s.heap d es ep →
      Prd H0 H kvs as → as.length = i → acc.toList = as.map Value.ref → s.heap.get? S = some { cls := .type "list", dict := none, data := .seq acc c, slots := #[] } →
      codeAny (model X.prog X.w) A (.builtin "list.extend.loop" ⟨[.ref S, .ref it, res], []⟩) R s := by
  intro k
  induction k with
  | zero =>
    intro i s H as acc c hk hi I fi fS ii de pr la ea gS
    refine codeAny_builtin PySem.F.entry_extend_loop ?_
    rw [Around.under_plainId PySem.F.plain_extend_loop _]
    show wpAny _ A.in1 (pyNext (.ref it) >>= _) _ _ s
    refine wpAny_bind (item_end hh ii de (by omega) fun h' eb => wpAny_pure ?_)
    have I2 : Inv X pins σ H { s with heap := h' } := I.turnedL (t' := s.toks) (fp := [it]) (fun b hb => by rw [List.mem_singleton.mp hb]; exact fi) fun b o hb e => eb b o (by simpa using hb) e
    exact fin _ H as acc c I2 pr (by rw [la, ← e0.size]; omega) ea (eb S _ hS gS) fS.1
  | succ k ih =>
    intro i s H as acc c hk hi I fi fS ii de pr la ea gS
    have li : i < es.size := by omega
    refine codeAny_builtin PySem.F.entry_extend_loop ?_
    rw [Around.under_plainId PySem.F.plain_extend_loop _]
    show wpAny _ A.in1 (pyNext (.ref it) >>= _) _ _ s
    refine wpAny_bind (item_next ii de li fun h' i2 T2 sz2 k2 => ?_)
    obtain ⟨kv, b, q1, q2, q3, q4⟩ := e0.at (Array.getElem?_eq_getElem li)
    have hnw : H s.heap.objs.size = none := I.hok.fresh (Nat.le_refl _)
    have sz : acc.size = i := by rw [← Array.length_toList, ea, List.length_map, la]
    have gS' := k2 S _ hS gS
    have nS : s.heap.objs.size ≠ S := Nat.ne_of_gt (Heap.lt_size gS)
    have nit : s.heap.objs.size ≠ it := let ⟨_, _, _, _, e, _⟩ := ii; Nat.ne_of_gt (Heap.lt_size e)
    show wpAny _ A.in1 (updateSeq S (·.push (.ref s.heap.objs.size)) >>= _) _ _ { s with heap := h' }
    refine wpAny_bind (wpAny_updateSeq gS' rfl (wpAny_pure ⟨plainId_quiet PySem.F.plain_extend_loop _, ?_⟩) (by rw [sz]; omega) (by show (acc.push _).size ≤ sizeLine + 1; rw [Array.size_push, sz]; omega))
    have oth : ∀ c o, c ≠ S → h'.get? c = some o → (h'.update S (Obj.mapSeq (·.push (Value.ref s.heap.objs.size)))).get? c = some o := fun c o hc e => (Heap.get?_update_other _ _ (Ne.symm hc)).trans e
    have I2 : Inv X pins σ (upd H s.heap.objs.size (.tup [.ref b, kv.2])) { s with heap := h'.update S (Obj.mapSeq (·.push (Value.ref s.heap.objs.size))) } := by
      refine I.turnedNew (t' := s.toks) (fp := [it, S]) (fun b hb => ?_) (fun b o hb e => ?_) (Nat.le_refl _) ⟨by show 2 ≤ _; decide, [es[i].key, es[i].val], .cons (by rw [q2]; rfl) (.cons q4 .nil), _, oth _ _ nS T2, rfl, _, rfl, rfl⟩
      · rcases List.mem_cons.mp hb with rfl | hb
        · exact fi
        · rw [List.mem_singleton.mp hb]; exact fS
      · simp only [List.mem_cons, List.not_mem_nil, or_false, not_or] at hb
        exact oth b o hb.2 (k2 b o hb.1 e)
    have F : ∀ {b : Addr}, b ≠ s.heap.objs.size → FpOk X pins H b → FpOk X pins (upd H s.heap.objs.size (.tup [.ref b, kv.2])) b := fun hb f => ⟨by rw [upd_ne hb]; exact f.1, f.2⟩
    have nn : H0 s.heap.objs.size = none := by
      cases z : H0 s.heap.objs.size with
      | none => rfl
      | some o => have := pr.same _ _ z; rw [hnw] at this; cases this
    refine ih (i + 1) _ (upd H s.heap.objs.size (.tup [.ref b, kv.2])) (as ++ [s.heap.objs.size]) (acc.push (.ref s.heap.objs.size)) _ (by omega) li I2 ?_ ?_ (i2.at fun o e => oth it o (Ne.symm hS) e) (de.at fun o e => oth d o hd (k2 d o hd2 e)) ?_ (by simp [la]) (by simp [ea]) (Heap.get?_update_self _ gS' rfl)
    · exact ⟨by rw [upd_ne (Ne.symm nit)]; exact fi.1, fi.2⟩
    · exact ⟨by rw [upd_ne (Ne.symm nS)]; exact fS.1, fS.2⟩
    · refine ⟨fun c o e => ?_, ?_, ?_, ?_⟩
      · rw [upd_ne (ne_of_none (pr.same c o e) hnw)]; exact pr.same c o e
      · refine List.nodup_append.mpr ⟨pr.nodup, by simp, fun x hx y hy z => ?_⟩
        rw [List.mem_singleton] at hy
        subst hy z
        obtain ⟨j, hj⟩ := List.getElem?_of_mem hx
        obtain ⟨_, _, _, _, w⟩ := pr.at_ j _ hj
        rw [hnw] at w; cases w
      · intro a ha
        rcases List.mem_append.mp ha with ha | ha
        · exact pr.new a ha
        · rw [List.mem_singleton.mp ha]; exact nn
      · intro j a ja
        rcases Nat.lt_or_ge j as.length with u | u
        · rw [List.getElem?_append_left u] at ja
          obtain ⟨kv', b', w1, w2, w3⟩ := pr.at_ j a ja
          exact ⟨kv', b', w1, w2, by rw [upd_ne (ne_of_none w3 hnw)]; exact w3⟩
        · rw [List.getElem?_append_right u] at ja
          have hj : j = i := by
            rcases Nat.eq_or_lt_of_le u with e | e
            · omega
            · rw [List.getElem?_eq_none (by simp; omega)] at ja; cases ja
          subst hj
          simp [la] at ja
          subst ja
          exact ⟨kv, b, q1, q3, upd_same⟩
end
end L2
set_option Elab.async false
set_option linter.all false
set_option maxRecDepth 100000
set_option maxHeartbeats 4000000
namespace Srt
open PySem PySem.W PySem.Spec PyProof.Rows L2
noncomputable def lexI : List Int → List Int → Bool
  | [], [] => false
  | [], _ :: _ => true
  | _ :: _, [] => false
  | a :: as, b :: bs => if a = b then lexI as bs else decide (a < b)
theorem lexI_asym : ∀ a b, lexI a b = true → lexI b a = false
  | [], [], h => by simp [lexI] at h
  | [], _ :: _, _ => rfl
  | _ :: _, [], h => by simp [lexI] at h
  | a :: as, b :: bs, h => by
    unfold lexI at h ⊢
    by_cases e : a = b
    · rw [if_pos e] at h; rw [if_pos e.symm]; exact lexI_asym as bs h
    · rw [if_neg e] at h; rw [if_neg (Ne.symm e)]
      simp at h ⊢; omega
theorem lexI_tr : ∀ a b c, lexI b a = false → lexI c b = false → lexI c a = false
  | [], [], c, _, h => h
  | [], b :: bs, [], _, _ => rfl
  | [], b :: bs, c :: cs, _, _ => rfl
  | a :: as, [], c, h, _ => by simp [lexI] at h
  | a :: as, b :: bs, [], _, h => by simp [lexI] at h
  | a :: as, b :: bs, c :: cs, h1, h2 => by
    unfold lexI at h1 h2 ⊢
    by_cases e1 : b = a <;> by_cases e2 : c = b
    · rw [if_pos e1] at h1; rw [if_pos e2] at h2; rw [if_pos (e2.trans e1)]; exact lexI_tr as bs cs h1 h2
    · rw [if_pos e1] at h1; rw [if_neg e2] at h2; rw [if_neg (fun z => e2 (z.trans e1.symm))]; rw [← e1]; exact h2
    · rw [if_neg e1] at h1; rw [if_pos e2] at h2; rw [if_neg (fun z => e1 (e2.symm.trans z))]; rw [e2]; exact h1
    · rw [if_neg e1] at h1; rw [if_neg e2] at h2
      simp at h1 h2
      rw [if_neg (by omega)]; simp; omega
theorem lexI_tot : ∀ a b, lexI a b = false → lexI b a = false → a = b
  | [], [], _, _ => rfl
  | [], _ :: _, h, _ => by simp [lexI] at h
  | _ :: _, [], _, h => by simp [lexI] at h
  | a :: as, b :: bs, h1, h2 => by
    unfold lexI at h1 h2
    by_cases e : a = b
    · subst e; rw [if_pos rfl] at h1 h2; rw [lexI_tot as bs h1 h2]
    · rw [if_neg e] at h1; rw [if_neg (Ne.symm e)] at h2
      simp at h1 h2; omega
theorem ordI (ks : Nat → List Int) : Ord fun i j => lexI (ks i) (ks j) := ⟨fun i j h => lexI_asym _ _ h, fun i j k h1 h2 => lexI_tr _ _ _ h1 h2⟩
noncomputable def TupI (h : Heap) (b : Addr) (ks : List Int) : Prop := ∃ o items n, h.get? b = some o ∧ o.cls = .type "tuple" ∧ o.data = .seq items n ∧ IntsAre items.toList ks
theorem TupI.at {h h' : Heap} {b : Addr} {ks : List Int} (x : TupI h b ks) (k : ∀ o, h.get? b = some o → h'.get? b = some o) : TupI h' b ks := let ⟨o, i, n, e, r⟩ := x; ⟨o, i, n, k o e, r⟩
theorem TupI.isTuple {h : Heap} {b : Addr} {ks : List Int} (x : TupI h b ks) : ∃ items : Array Value, h.IsTuple b items ∧ IntsAre items.toList ks := let ⟨o, i, n, e, c, d, r⟩ := x; ⟨i, ⟨o, e, c, n, d⟩, r⟩
section
variable {prog : Program} {w : World} {A : Around} {E : Value → Shared → Prop} {s : Shared}
theorem lex_end {as bs : List Int} {i : Nat} (h1 : min as.length bs.length ≤ i) (h2 : i ≤ min as.length bs.length) : lexI (as.drop i) (bs.drop i) = decide (as.length < bs.length) := by
  rcases Nat.lt_or_ge i as.length with a1 | a1
  · rw [List.drop_of_length_le (l := bs) (by omega), List.drop_eq_getElem_cons a1]
    show false = _
    simp; omega
  · rw [List.drop_of_length_le a1]
    rcases Nat.lt_or_ge i bs.length with b1 | b1
    · rw [List.drop_eq_getElem_cons b1]
      show true = _
      simp; omega
    · rw [List.drop_of_length_le b1]
      show false = _
      simp; omega
open PySem.SeqAt in
theorem rc_ints {x y : Addr} {as bs : List Int} (hx : TupI s.heap x as) (hy : TupI s.heap y bs) (hu : A.units < cLine) : RcLtAt A s (.ref x) (.ref y) (lexI as bs) := by
  obtain ⟨xs, t1, r1⟩ := hx.isTuple
  obtain ⟨ys, t2, r2⟩ := hy.isTuple
  have l1 := IntsAre.length r1
  have l2 := IntsAre.length r2
  have lx : xs.size = as.length := by simpa using l1
  have ly : ys.size = bs.length := by simpa using l2
  have atI : ∀ {vs : List Value} {ns : List Int}, IntsAre vs ns → ∀ {j : Nat} (h1 : j < vs.length) (h2 : j < ns.length), ∃ t, vs[j] = .int ns[j] t := by
    intro vs ns r
    induction r with
    | nil => intro j h1; simp at h1
    | cons n t q ih =>
      intro j h1 h2
      cases j with
      | zero => exact ⟨t, rfl⟩
      | succ j => simpa using ih (by simpa using h1) (by simpa using h2)
  have key := RcLtAt.tuples (e := fun i => as[i]? == bs[i]?) (f := fun i => decide (as.getD i 0 < bs.getD i 0)) (res := fun i => if i < min as.length bs.length then lexI (as.drop i) (bs.drop i) else decide (as.length < bs.length)) t1 t2 hu (fun i hi e => ?_) (fun i hi e => ?_) (fun i hi => ?_) (fun j h1 h2 => ?_) (fun j h1 h2 e => ?_)
  · by_cases z : 0 < min as.length bs.length
    · rw [if_pos z] at key; simpa using key
    · rw [if_neg z, ← lex_end (as := as) (bs := bs) (i := 0) (by omega) (by omega)] at key; simpa using key
  · have a1 : i < as.length := by omega
    have b1 : i < bs.length := by omega
    have e' : as[i] = bs[i] := by simpa [a1, b1] using e
    have h1 : lexI (as.drop i) (bs.drop i) = lexI (as.drop (i + 1)) (bs.drop (i + 1)) := by
      rw [List.drop_eq_getElem_cons a1, List.drop_eq_getElem_cons b1]
      conv => lhs; unfold lexI
      rw [if_pos e']
    rw [if_pos (by omega), h1]
    by_cases z : i + 1 < min as.length bs.length
    · rw [if_pos z]
    · rw [if_neg z, lex_end (by omega) (by omega)]
  · have a1 : i < as.length := by omega
    have b1 : i < bs.length := by omega
    have e' : as[i] ≠ bs[i] := by simpa [a1, b1] using e
    rw [if_pos (by omega), List.drop_eq_getElem_cons a1, List.drop_eq_getElem_cons b1]
    unfold lexI
    rw [if_neg e']
    simp [a1, b1]
  · rw [if_neg (by omega), lx, ly]
  · have a1 : j < as.length := by omega
    have b1 : j < bs.length := by omega
    obtain ⟨t, q1⟩ := atI r1 (j := j) (by simpa using h1) a1
    obtain ⟨u, q2⟩ := atI r2 (j := j) (by simpa using h2) b1
    have q1' : xs[j] = .int as[j] t := by simpa using q1
    have q2' : ys[j] = .int bs[j] u := by simpa using q2
    rw [q1', q2']
    have := EqAt.int_int (A := A.in1) (s := s) as[j] t bs[j] u
    simpa [a1, b1] using this
  · have a1 : j < as.length := by omega
    have b1 : j < bs.length := by omega
    obtain ⟨t, q1⟩ := atI r1 (j := j) (by simpa using h1) a1
    obtain ⟨u, q2⟩ := atI r2 (j := j) (by simpa using h2) b1
    have q1' : xs[j] = .int as[j] t := by simpa using q1
    have q2' : ys[j] = .int bs[j] u := by simpa using q2
    rw [q1', q2']
    intro prog w E Q h
    have h' : Q (.bool (decide (as[j] < bs[j]))) s := by simpa [a1, b1] using h
    exact lt_int h'
theorem key_ints {P : Program} {w : World} {h : Heap} {b : Addr} {ks : List Int} (x : TupI h b ks) : IsTupleKey (mixKind P w) h (ks.map Sum.inl) b := by
  obtain ⟨o, items, n, e, c, d, r⟩ := x
  refine ⟨o, items, n, e, c, d, ?_⟩
  clear e d
  generalize items.toList = l at r
  induction r with
  | nil => exact .nil
  | cons n t q ih => exact .cons (kV_is (k := Sum.inl n) ⟨t, rfl⟩) ih
theorem less_pairs {x y kx ky : Addr} {vx vy : Value} {ox oy : Obj} {n m : Nat} {as bs : List Int} {Q : Bool → Shared → Prop} (gx : s.heap.get? x = some ox) (dx : ox.data = .seq #[.ref kx, vx] n) (gy : s.heap.get? y = some oy) (dy : oy.data = .seq #[.ref ky, vy] m)
    (hx : TupI s.heap kx as) (hy : TupI s.heap ky bs) (ne : as ≠ bs) (hu : A.units < cLine) (h : Q (lexI as bs) s) : wpAny (model prog w) A (keyLt' (tuples' false) (.ref x) (.ref y)) Q E s := by
  refine kat_lt gx dx gy dy ?_
  show KatLex prog w A false _ Q ((.ref kx, .ref ky) :: _) 0 s
  refine kat_cons (wpAny_eqBool_tuple (knd := mixKind prog w) hu (key_ints hx) (key_ints hy) ?_)
  rw [decide_eq_false (fun e => ne ((List.map_inj_right (fun a b e => Sum.inl.inj e)).mp e))]
  exact kat_no (kat_one _ _ (rc_ints hx hy hu prog w _ _ h))
end
end Srt
set_option Elab.async false
set_option linter.all false
set_option maxRecDepth 100000
set_option maxHeartbeats 4000000
namespace L2
open PySem PySem.W PySem.Spec PyProof.Rows DI Srt
theorem paired_at {α β : Type} {F : α → β → Prop} : ∀ {xs : List α} {ys : List β}, xs.length = ys.length → (∀ (j : Nat) x y, xs[j]? = some x → ys[j]? = some y → F x y) → Paired F xs ys
  | [], [], _, _ => .nil
  | x :: xs, y :: ys, hl, h => .cons (h 0 x y rfl rfl) (paired_at (by simpa using hl) fun j a b p q => h (j + 1) a b (by simpa using p) (by simpa using q))
  | [], _ :: _, hl, _ => by simp at hl
  | _ :: _, [], hl, _ => by simp at hl
theorem paired_get {α β : Type} {F : α → β → Prop} {xs : List α} {ys : List β} (h : Paired F xs ys) : ∀ {j : Nat} {x : α}, xs[j]? = some x → ∃ y, ys[j]? = some y ∧ F x y := by
  induction h with
  | nil => intro j x e; simp at e
  | @cons a b as bs r t ih =>
    intro j x e
    cases j with
    | zero => simp at e; subst e; exact ⟨b, rfl, r⟩
    | succ j => simpa using ih (by simpa using e)
theorem Inv.tupI {X : Cx} {pins : List (Addr × Obj)} {σ : St} {H : Hp} {s : Shared} {b : Addr} {k : List Int} (I : Inv X pins σ H s) (h : H b = some (.tup (iv k))) : TupI s.heap b k := by
  obtain ⟨z, its, r, o, e, c, n, d, _⟩ := (show ObjOk X.prog X.w H s.heap b (.tup (iv k)) from I.hok b _ h)
  exact ⟨o, its.toArray, n, e, c, d, by simpa using intsAre_of r⟩
theorem of_map {α : Type} {n : Nat} {p : Array Nat} (hp : Of n p) {ks : List α} (hk : ks.length = n) (d : α) : (p.toList.map fun i => ks.getD i d).Perm ks := by
  have h1 := (Array.perm_iff_toList_perm.mp hp).map fun i => ks.getD i d
  have h2 : ((List.toArray (List.range n)).toList.map fun i => ks.getD i d) = ks := by
    show (List.range n).map _ = ks
    refine List.ext_getElem (by simp [hk]) fun i a b => ?_
    simp at a
    simp [hk ▸ a]
  rw [h2] at h1; exact h1
theorem up_pairwise {c : Nat → Nat → Bool} {n : Nat} {p : Array Nat} (hp : Of n p) (u : Up c p n) : p.toList.Pairwise fun i j => c j i = false := by
  rw [List.pairwise_iff_getElem]
  intro i j hi hj hij
  have hs := hp.size
  have := u i j (Nat.le_of_lt hij) (by rw [← hs]; simpa using hj)
  have e1 : at' p i = p.toList[i] := by unfold at'; simp at hi; simp [hi]
  have e2 : at' p j = p.toList[j] := by unfold at'; simp at hj; simp [hj]
  rw [e1, e2] at this; exact this
noncomputable def Rising (ms : List (List Int)) : Prop := ms.Pairwise fun a b => lexI b a = false
section
variable {X : Cx}
theorem keys_inl {H : Hp} {b : Addr} {k : List Int} (h : H b = some (.tup ((k.map Sum.inl).map kV))) : H b = some (.tup (iv k)) := by
  rw [h, List.map_map]; rfl
theorem vals_refs : ∀ (bs : List Addr), Vals (bs.map V.ref) (bs.map Value.ref)
  | [] => .nil
  | _ :: bs => .cons rfl (vals_refs bs)
end
end L2
set_option Elab.async false
set_option linter.all false
set_option maxRecDepth 100000
set_option maxHeartbeats 4000000
namespace L2
open PySem PySem.W PySem.Spec PyProof.Rows DI Srt
noncomputable def itV (v d : Addr) : HO := .ext fun h => h.IsItemsView v d
section
variable {X : Cx} {o : Expr} {to : TE} {apos cpos : Pos}
noncomputable def tItems (to : TE) : TE := fun σ H Q => to σ H fun x H1 => ∃ d kvs, x = .ref d ∧ Rd H1 d (.dT kvs) ∧ ∀ v, H1 v = none → Q (.ref v) (upd H1 v (itV v d))
theorem pe_items (ho : PE X o to) (hbase : attributeBase o "items" X.env (eval o X.env) = eval o X.env := by rfl) (hline : (apos.endLine == cpos.line) = true := by rfl) : PE X (.Call (.Attribute o "items" apos) [] [] cpos) (tItems to) := by
  intro pins s σ H Q I h
  refine wpAny_Call_method0_late hbase hline (thn (ho pins s σ H _ I h) fun v s1 ⟨x, H1, I1, r1, d, kvs, ex, hd, q⟩ => ?_)
  subst ex
  cases r1
  obtain ⟨lo, z, nd, es, ep, de, en⟩ := I1.entT hd
  obtain ⟨ob, gb, xb, db⟩ := id de
  refine ⟨"dict", "dict.items", F.plainAttrs_dict, F.slot_dict_items, F.type_dict_items, de.ty, (fun b e => by cases e; exact ⟨ob, gb, xb.2.1⟩), Calls.callWith_builtin rfl (PySem.evalArgs_none ?_)⟩
  refine call_meetsIn F.slot_dict_items de.ty F.entry_dict_items (F.args_dict_items_1 _) (view_items lo) ⟨⟨es, ep, de⟩, .ref s1.heap.objs.size, _, I1.laid (t' := s1.toks) (o := itV s1.heap.objs.size d) (fun b u e => Heap.get?_push_of_some _ e) (Nat.le_refl _) ⟨⟨_, Heap.get?_push_size _ rfl, rfl, rfl⟩, ⟨_, Heap.get?_push_size _ rfl⟩, fun h1 h2 ⟨o, e, r⟩ k => ⟨o, k o e, r⟩⟩, rfl, q _ (I1.hok.fresh (Nat.le_refl _))⟩
end
section
variable {X : Cx}
theorem call_lenT : CallR X (.builtin "len") (fun xs H Q => ∃ d kvs, xs = [.ref d] ∧ Rd H d (.dT kvs) ∧ Q (.int kvs.length) H) := by
  intro pins s σ H xs us Q I r h
  obtain ⟨d, kvs, rfl, hd, q⟩ := h
  obtain ⟨u, rfl, ru⟩ := vals1 r
  obtain rfl : u = Value.ref d := ru
  obtain ⟨lo, z, nd, es, ep, de, en⟩ := I.entT hd
  obtain ⟨ob, gb, xb, db⟩ := id de
  rw [sizeLine_eq] at z
  have ml : MeetsIn X.prog X.w (Builtin.«dict.__len__» ⟨[.ref d], []⟩) (fun _ R s' => (∃ es ep, DEnt s'.heap d es ep ∧ es.size = kvs.length) ∧ R (.ok (.ret (.int kvs.length s'.toks))) { s' with toks := s'.toks + 1 }) :=
    .of_wp fun A R s' ⟨⟨es, ep, ⟨ob, gb, xb, db⟩, hz⟩, h⟩ => by
      show wpAny _ _ (dictSize d >>= _) _ _ s'
      unfold dictSize
      refine wpAny_bind (wpAny_bind (wpAny_dictEntries gb db (wpAny_pure ?_)))
      show wpAny _ _ (Builtin.Dict.pendingCount d >>= _) _ _ s'
      refine wpAny_bind (wpAny_pendingCount_other lo (wpAny_ret_mkInt ?_))
      rw [Nat.add_zero, hz]; exact h
  refine Calls.call_function_entry kind_len plain_len entry_len (args_len1 _) ?_
  unfold Builtin.«len»
  refine wpAny_bind (m := oneArg "len" _) (wpAny_pure (wpAny_bind (m := callSpecial? (.ref d) (Str.ofString "__len__")) (wpAny_callSpecial?_slot (name := Str.ofString "__len__") de.ty F.slot_dict_len (call_meetsIn F.slot_dict_len de.ty F.entry_dict_len (F.args_dict_len_1 _) ml ⟨⟨es, ep, de, en.size⟩, ?_⟩))))
  show wpAny _ _ _ _ _ { s with toks := s.toks + 1 }
  refine wpAny_bind (wpAny_holding (wpAny_pure (wpAny_bind (wpAny_letGo ?_))))
  show wpAny _ _ (if ((kvs.length : Nat) : Int) < 0 then _ else _) _ _ _
  rw [if_neg (by omega)]
  show wpAny _ _ (if ((kvs.length : Nat) : Int) ≥ 2 ^ 63 then _ else _) _ _ _
  rw [if_neg (by omega)]
  exact wpAny_bind (wpAny_mkInt (wpAny_pure ⟨_, rfl, .int kvs.length, H, I.tok _, ⟨_, rfl⟩, q⟩))
end
end L2
set_option Elab.async false
set_option linter.all false
set_option maxRecDepth 100000
set_option maxHeartbeats 4000000
namespace L2
open PySem PySem.W PySem.Spec PyProof.Rows DI Srt
section
variable {X : Cx} {pins : List (Addr × Obj)} {σ : St} {H : Hp} {s : Shared} {A : Around} {E : Value → Shared → Prop} {v d : Addr} {es : Array DictEntry} {ep : Nat} {kvs : List (List Key × V)}
theorem collect_items {Q : List Value → Shared → Prop} (hh : A.handled = none) (I : Inv X pins σ H s) (vw : s.heap.IsItemsView v d) (de : DEnt s.heap d es ep) (en : EntT H kvs es) (few : es.size ≤ sizeLine)
    (fin : ∀ (s' : Shared) H' as, Inv X pins σ H' s' → Prd H H' kvs as → as.length = kvs.length → Q (as.map Value.ref) s') : wpAny (model X.prog X.w) A (collect (.ref v)) Q E s := by
  unfold collect
  refine wpAny_bind (wpAny_runValue (codeAny_builtin PySem.F.entry_proto_collect ?_))
  rw [Around.under_plainId PySem.F.plain_proto_collect _]
  show wpAny _ A.in1 (newList [] >>= fun l => again (.builtin "list.__iadd__" ⟨[l, .ref v], []⟩)) _ _ s
  refine wpAny_bind (wpAny_newObj_type (wpAny_pure ⟨plainId_quiet PySem.F.plain_list_iadd _, codeAny_builtin PySem.F.entry_list_iadd ?_⟩))
  rw [Around.under_plainId PySem.F.plain_list_iadd _]
  show wpAny _ A.in1 (Builtin.List.listExtendWith (.ref s.heap.objs.size) (.ref v) (.ref s.heap.objs.size)) _ _ { s with heap := s.heap.push { cls := .type "list", data := .seq #[] } }
  have gS : (s.heap.push { cls := .type "list", data := .seq #[] }).get? s.heap.objs.size = some { cls := .type "list", data := .seq #[] } := Heap.get?_push_size _ rfl
  have vw1 : (s.heap.push { cls := .type "list", data := .seq #[] }).IsItemsView v d := let ⟨o, e, r⟩ := vw; ⟨o, Heap.get?_push_of_some _ e, r⟩
  have de1 : DEnt (s.heap.push { cls := .type "list", data := .seq #[] }) d es ep := de.at fun o e => Heap.get?_push_of_some _ e
  have nv : s.heap.objs.size ≠ v := let ⟨o, e, _⟩ := vw; Nat.ne_of_gt (Heap.lt_size e)
  have zS : (s.heap.push { cls := .type "list", data := .seq #[] }).objs.size = s.heap.objs.size + 1 := Heap.size_push ..
  unfold Builtin.List.listExtendWith
  refine wpAny_bind (wpAny_typeOf (T := "dict_items") (s := { s with heap := s.heap.push { cls := .type "list", data := .seq #[] } }) (Heap.IsItemsView.typeIs (s := { s with heap := s.heap.push { cls := .type "list", data := .seq #[] } }) vw1) ?_)
  simp only [show Builtin.List.listSameRef (.ref s.heap.objs.size) (.ref v) = false by simp [Builtin.List.listSameRef, nv], show (Value.type "dict_items" == Value.type "list") = false by decide, show (Value.type "dict_items" == Value.type "tuple") = false by decide, Bool.or_false, Bool.false_eq_true, if_false]
  refine wpAny_bind (item_iter (s := { s with heap := s.heap.push { cls := .type "list", data := .seq #[] } }) vw1 de1 fun h2 ii k2 => ?_)
  have k2' : ∀ b o, s.heap.get? b = some o → h2.get? b = some o := fun b o e => k2 b o (Heap.get?_push_of_some _ e)
  have gS2 := k2 _ _ gS
  refine wpAny_bind (wpAny_holding (kdx_hint (let ⟨o, e, c, _⟩ := vw1; ⟨o, k2 _ _ e, c⟩) ?_))
  have loop : ∀ (h3 : Heap) (c : Nat), (∀ b o, b ≠ s.heap.objs.size → h2.get? b = some o → h3.get? b = some o) → h3.get? s.heap.objs.size = some { cls := .type "list", data := .seq #[] c } →
      codeAny (model X.prog X.w) A (.builtin "list.extend.loop" ⟨[.ref s.heap.objs.size, .ref (s.heap.push { cls := .type "list", data := .seq #[] }).objs.size, .ref s.heap.objs.size], []⟩) (fun (x : Result) s' => match x with
        | .ok (.ret v) => wpAny (model X.prog X.w) A (match v with
          | .ref a => do
            let o ← load a
            match o.data with
            | .seq xs _ => pure xs.toList
            | _ => unsupported "internal:collect"
          | _ => unsupported "internal:collect") Q E s'
        | .ok _ => False
        | .error e => E e s') { s with heap := h3 } := by
    intro h3 c k3 g3
    have k3' : ∀ b o, s.heap.get? b = some o → h3.get? b = some o := fun b o e => k3 b o (Nat.ne_of_lt (Heap.lt_size e)) (k2' b o e)
    have I3 : Inv X pins σ H { s with heap := h3 } := I.kept (t' := s.toks) k3'
    have ii3 : ItAt h3 (s.heap.push { cls := .type "list", data := .seq #[] }).objs.size d 0 es.size ep := ⟨_, _, _, _, k3 _ _ (by rw [zS]; omega) ii, .inl rfl⟩
    refine items_loop (X := X) (pins := pins) (σ := σ) (H0 := H) (kvs := kvs) (S := s.heap.objs.size) (it := (s.heap.push { cls := .type "list", data := .seq #[] }).objs.size) hh en few (Nat.ne_of_lt (by rw [zS]; exact Nat.lt_succ_self _)) (Nat.ne_of_lt de.lt) (Nat.ne_of_lt (Nat.lt_of_lt_of_le de.lt (by rw [zS]; omega))) (fun s' H' as acc c' I' pr la ea gS' nS' => ?_)
      es.size 0 _ H [] #[] c (by omega) (Nat.zero_le _) I3 (I.fpOk (by rw [zS]; omega) (I.hok.fresh (by rw [zS]; omega))) (I.fpOk (Nat.le_refl _) (I.hok.fresh (Nat.le_refl _))) ii3 (de.at fun o e => k3' d o e) ⟨Same.refl _, List.nodup_nil, (fun a ha => nomatch ha), (fun j a e => by simp at e)⟩ rfl rfl g3
    show wpAny _ A (load s.heap.objs.size >>= _) _ _ s'
    refine wpAny_bind (wpAny_load gS' (wpAny_pure ?_))
    rw [ea]
    exact fin s' H' as I' pr la
  refine wpAny_ite_split (fun _ => ?_) (fun _ => wpAny_pure ⟨plainId_quiet PySem.F.plain_extend_loop _, loop h2 0 (fun b o _ e => e) gS2⟩)
  refine wpAny_bind (wpAny_rule (wpAny_bind ?_))
  show wpAny _ _ (updateSeq s.heap.objs.size (·.push .none) >>= fun _ => updateSeq s.heap.objs.size (·.pop)) _ _ _
  refine wpAny_bind (wpAny_updateSeq gS2 rfl ?_)
  have gS3 := Heap.get?_update_self (Obj.mapSeq (·.push Value.none)) gS2 rfl
  refine wpAny_updateSeq (hz := by seq_fits) gS3 rfl ?_
  have gS4 := Heap.get?_update_self (Obj.mapSeq (·.pop)) gS3 rfl
  refine wpAny_pure ⟨plainId_quiet PySem.F.plain_extend_loop _, loop _ _ (fun b o hb e => ?_) gS4⟩
  exact (Heap.get?_update_other _ _ (Ne.symm hb)).trans ((Heap.get?_update_other _ _ (Ne.symm hb)).trans e)
end
end L2
set_option Elab.async false
set_option linter.all false
set_option maxRecDepth 100000
set_option maxHeartbeats 4000000
namespace L2
open PySem PySem.W PySem.Spec PyProof.Rows DI Srt
noncomputable abbrev PrsAt (H H' : Hp) (as : List Addr) (rs : List (List Int × V)) : Prop := Paired (fun a r => ∃ b, H b = some (.tup (iv r.1)) ∧ H a = none ∧ H' a = some (.tup [.ref b, r.2])) as rs
noncomputable abbrev kI (kw : List Int × V) : List Key × V := (kw.1.map Sum.inl, kw.2)
theorem asks_pairs {prog : Program} {w : World} {A : Around} {s : Shared} {as : List Addr} {ks : List (List Int)} (hu : A.units < cLine) (hl : as.length = ks.length) (h2 : 2 ≤ as.length) (nd : ks.Nodup)
    (ht : ∀ (j : Nat) a k, as[j]? = some a → ks[j]? = some k → ∃ o b u n, s.heap.get? a = some o ∧ o.cls = .type "tuple" ∧ o.data = .seq #[.ref b, u] n ∧ TupI s.heap b k) :
    Asks prog w A (as.map Value.ref) (fun i j => lexI (ks.getD i []) (ks.getD j [])) (tuples' false) s where
  kind := fun E Q h => by
    obtain ⟨fs, hf, hi, hn⟩ : ∃ fs : List Value, KatTups s.heap (as.map Value.ref) fs ∧ (∀ v ∈ fs, ∃ b k, v = .ref b ∧ TupI s.heap b k) ∧ fs.length = as.length := by
      clear h2 h nd
      induction as generalizing ks with
      | nil => exact ⟨[], .nil, (fun v hv => nomatch hv), rfl⟩
      | cons a as ih =>
        cases ks with
        | nil => simp at hl
        | cons k ks =>
          obtain ⟨fs, h1, h2, h3⟩ := ih (ks := ks) (by simpa using hl) fun j b' k' e1 e2 => ht (j + 1) b' k' (by simpa using e1) (by simpa using e2)
          obtain ⟨o, b, u, n, e, c, d, ti⟩ := ht 0 a k rfl rfl
          refine ⟨.ref b :: fs, .cons e c d rfl h1, fun v hv => ?_, by simp [h3]⟩
          rcases List.mem_cons.mp hv with rfl | hv
          · exact ⟨_, _, rfl, ti⟩
          · exact h2 v hv
    refine kat_kind (T := .type "tuple") hf (by omega) (fun v hv => ?_) (by decide) h
    obtain ⟨b, k, rfl, o, items, n, e, c, _⟩ := hi v hv
    exact c ▸ (show Looks _ s.heap (typeOf (.ref b)) o.cls from (Looks.ld e).andThen .now)
  less := fun i j ⟨hi, hj, hne⟩ Q h => by
    rw [List.length_map] at hi hj
    have g1 : (as.map Value.ref).getD i Value.none = .ref as[i] := by simp [hi]
    have g2 : (as.map Value.ref).getD j Value.none = .ref as[j] := by simp [hj]
    have l1 : i < ks.length := by omega
    have l2 : j < ks.length := by omega
    have k1 : ks.getD i [] = ks[i] := by simp [l1]
    have k2 : ks.getD j [] = ks[j] := by simp [l2]
    rw [g1, g2]
    rw [k1, k2] at h
    obtain ⟨o1, b1, u1, n1, e1, c1, d1, t1⟩ := ht i _ _ (by simp [hi] : as[i]? = some as[i]) (by simp [l1] : ks[i]? = some ks[i])
    obtain ⟨o2, b2, u2, n2, e2, c2, d2, t2⟩ := ht j _ _ (by simp [hj] : as[j]? = some as[j]) (by simp [l2] : ks[j]? = some ks[j])
    refine less_pairs e1 d1 e2 d2 t1 t2 (fun z => hne ?_) hu h
    have pw := List.pairwise_iff_getElem.mp nd
    rcases Nat.lt_trichotomy i j with x | x | x
    · exact absurd z (pw i j l1 l2 x)
    · exact x
    · exact absurd z.symm (pw j i l2 l1 x)
noncomputable def rSortedI : List V → Hp → VK → Prop := fun xs H Q => ∃ (v d : Addr) (kws : List (List Int × V)), xs = [.ref v] ∧ H v = some (itV v d) ∧ Rd H d (.dT (kws.map kI)) ∧ kws.length < 64 ∧
  ∀ (H' : Hp) (q : Addr) (as : List Addr) (rs : List (List Int × V)), Same H H' → H' q = none → rs.Perm kws → Rising (rs.map (·.1)) → PrsAt H H' as rs → Q (.ref q) (upd H' q (.lst (as.map V.ref)))
section
variable {X : Cx}
theorem nodup_inl {ks : List (List Int)} (h : (ks.map fun k => k.map (Sum.inl : Int → Key)).Nodup) : ks.Nodup := by
  induction ks with
  | nil => exact List.nodup_nil
  | cons k ks ih =>
    rw [List.map_cons, List.nodup_cons] at h
    exact List.nodup_cons.mpr ⟨fun z => h.1 (List.mem_map_of_mem z), ih h.2⟩
theorem call_sortedI (hc : X.calm = true) (hu : X.A.units + 2 < cLine) : CallR X (.builtin "sorted") rSortedI := by
  intro pins s σ H xs us Q I r h
  obtain ⟨v, d, kws, rfl, hv, hd, few, q⟩ := h
  obtain ⟨u, rfl, ru⟩ := vals1 r
  obtain rfl : u = Value.ref v := ru
  obtain ⟨lo, z, nd, es, ep, de, en⟩ := I.entT hd
  obtain ⟨vw, _, _⟩ := (show ObjOk X.prog X.w H s.heap v (itV v d) from I.hok v _ hv)
  have hes := en.size
  rw [List.length_map] at hes
  refine sorted_by (collect_items (A := X.A.in1) (show X.A.in1.handled = none from I.ok.hd hc) I vw de en (by rw [hes, sizeLine_eq]; omega) fun s' H' as I' pr la => ?_)
  rw [List.length_map] at la
  have nk : (kws.map (·.1)).Nodup := by
    have e : ((kws.map kI).map (·.1)) = (kws.map (·.1)).map fun k => k.map (Sum.inl : Int → Key) := by rw [List.map_map, List.map_map]; rfl
    rw [e] at nd
    exact nodup_inl nd
  have at_ : ∀ (j : Nat) a, as[j]? = some a → ∃ r b, kws[j]? = some r ∧ H b = some (.tup (iv r.1)) ∧ H a = none ∧ H' a = some (.tup [.ref b, r.2]) := fun j a e => by
    obtain ⟨kv, b, w1, w2, w3⟩ := pr.at_ j a e
    rw [List.getElem?_map, Option.map_eq_some_iff] at w1
    obtain ⟨r, w4, w5⟩ := w1
    subst w5
    exact ⟨r, b, w4, keys_inl w2, pr.new a (List.mem_of_getElem? e), w3⟩
  have hkl : as.length = (kws.map (·.1)).length := by simp [la]
  refine ⟨by simpa [la] using few, fun i j => lexI ((kws.map (·.1)).getD i []) ((kws.map (·.1)).getD j []), tuples' false, ordI _, fun h2 h'' kp2 => asks_pairs hu hkl (by simpa using h2) nk fun j a k e1 e2 => ?_, fun p e h'' o1 o2 kp2 at2 => ?_⟩
  · obtain ⟨r, b, w1, w2, w3, w4⟩ := at_ j a e1
    rw [List.getElem?_map, w1] at e2
    cases e2
    obtain ⟨z, its, rv, o, ge, ce, n, de', _⟩ := (show ObjOk X.prog X.w H' s'.heap a (.tup [.ref b, r.2]) from I'.hok a _ w4)
    cases rv with
    | cons ra rr => cases rr with
      | cons rb rr => cases rr; cases ra; exact ⟨o, b, _, n, kp2 a o ge, ce, de', (I'.tupI (pr.same _ _ w2)).at fun o e => kp2 b o e⟩
  · rw [List.length_map, la] at o1 o2
    have pw := up_pairwise o1 o2
    have lt : ∀ i ∈ p.toList, i < kws.length := fun i hi => List.mem_range.mp ((Array.perm_iff_toList_perm.mp o1).mem_iff.mp hi)
    refine ⟨.ref s'.heap.objs.size, _, I'.laid (t' := s'.toks) (a := s'.heap.objs.size) (o := .lst ((p.toList.map fun i => as.getD i 0).map V.ref)) kp2 (Nat.le_refl _) ⟨?_, (p.toList.map fun i => as.getD i 0).map Value.ref, e, vals_refs _, ?_⟩, rfl,
      q H' _ (p.toList.map fun i => as.getD i 0) (p.toList.map fun i => kws.getD i ([], .non)) pr.same (I'.hok.fresh (Nat.le_refl _)) (of_map o1 rfl _) ?_ ?_⟩
    · simp; rw [o1.size, sizeLine_eq]; omega
    · rw [at2]
      congr 3
      unfold outOf
      rw [List.map_map]
      congr 1
      refine List.map_congr_left fun i hi => ?_
      have := lt i hi
      have : i < as.length := by omega
      simp [this]
    · unfold Rising
      rw [List.map_map]
      refine List.pairwise_map.mpr (pw.imp_of_mem fun {i j} hi hj h => ?_)
      have l1 := lt i hi
      have l2 := lt j hj
      simpa [l1, l2] using h
    · refine paired_at (by simp) fun j x y e1 e2 => ?_
      rw [List.getElem?_map, Option.map_eq_some_iff] at e1 e2
      obtain ⟨i, hi, rfl⟩ := e1
      obtain ⟨i', hi', rfl⟩ := e2
      rw [hi] at hi'; cases hi'
      have l1 := lt i (List.mem_of_getElem? hi)
      have l2 : i < as.length := by omega
      obtain ⟨r, b, w1, w2, w3, w4⟩ := at_ i (as.getD i 0) (by simp [l2])
      have : kws.getD i ([], .non) = r := by rw [List.getD_eq_getElem?_getD, w1]; rfl
      rw [this]
      exact ⟨b, w2, w3, w4⟩
end
end L2
set_option Elab.async false
set_option linter.all false
set_option maxRecDepth 100000
set_option maxHeartbeats 4000000
namespace L2
open PySem PySem.W PySem.Spec PyProof.Rows DI Srt
structure Yields (J : It) (n : Nat) (f : Nat → Hp → V → Hp → Prop) (ok : Hp → Prop) : Prop where
  go : ∀ i H, i < n → ok H → J.go i H
  yld : ∀ i H x H', i < n → ok H → J.yld i H x H' → f i H x H'
  stop : ∀ H, ok H → J.stop n H
section
variable {J : It} {n : Nat} {f : Nat → Hp → V → Hp → Prop} {ok : Hp → Prop}
theorem loopW_Y (Y : Yields J n f ok) {g : TG} {tc : TT} {tb : TB} {σ : St} {H : Hp} {Q : St → Hp → Prop} (Pv : Nat → St → Hp → Prop) (h0 : Pv 0 σ H) (hok : ∀ i σ H, Pv i σ H → ok H)
    (hs : ∀ i x σ' H' H'', i < n → Pv i σ' H' → f i H' x H'' → ∀ R : St → Hp → Prop, (∀ a b, Pv (i + 1) a b → R a b) → g x σ' H'' fun σ2 H3 => tc σ2 H3 fun b H4 => if b = true then tb σ2 H4 R else R σ2 H4) (hd : ∀ σ' H', Pv n σ' H' → Q σ' H') : LoopW J g tc tb σ H Q := by
  refine ⟨fun i m σ' H' => m = n - i ∧ i ≤ n ∧ Pv i σ' H', ⟨n, by simp, Nat.zero_le _, h0⟩, ?_⟩
  rintro i m σ' H' ⟨rfl, hi, p⟩
  have o := hok i σ' H' p
  by_cases hlt : i < n
  · exact .inr ⟨Y.go i H' hlt o, fun x H2 y => hs i x σ' H' H2 hlt p (Y.yld i H' x H2 hlt o y) _ fun a b pv => ⟨n - (i + 1), by omega, rfl, hlt, pv⟩⟩
  · have e : i = n := by omega
    subst e
    exact .inl ⟨Y.stop H' o, hd σ' H' p⟩
theorem comp_Y (Y : Yields J n f ok) {g : TG} {tc : TT} {te : TE} {H : Hp} {R : Addr → Hp → Prop} {σ1 : St} (Pv : Addr → Nat → List V → St → Hp → Prop) (hn : n ≤ 100000) (hp0 : ∀ p, H p = none → Pv p 0 [] σ1 (upd H p (.lst [])))
    (hok : ∀ p i ys σ' H', H p = none → Pv p i ys σ' H' → ok H')
    (hs : ∀ p i ys σ' H' x H'', H p = none → i < n → ys.length ≤ i → Pv p i ys σ' H' → H' p = some (.lst ys) → f i H' x H'' → ∀ (Q1 : V → St → Hp → Prop) (Q2 : St → Hp → Prop), (∀ v σ2 H5, H5 p = some (.lst ys) → Pv p (i + 1) (ys ++ [v]) σ2 (upd H5 p (.lst (ys ++ [v]))) → Q1 v σ2 H5) → (∀ σ2 H4, H4 p = some (.lst ys) → Pv p (i + 1) ys σ2 H4 → Q2 σ2 H4) →
      g x σ' H'' fun σ2 H3 => tc σ2 H3 fun b H4 => if b = true then te σ2 H4 fun v H5 => Q1 v σ2 H5 else Q2 σ2 H4)
    (q : ∀ p ys σ' H', H p = none → Pv p n ys σ' H' → H' p = some (.lst ys) → ys.length ≤ n → R p H') :
    ∀ p, H p = none → ∃ W : Nat → Nat → List V → St → Hp → Prop, (∃ m, W 0 m [] σ1 (upd H p (.lst []))) ∧ ∀ i m ys σ' H', W i m ys σ' H' →
      (J.stop i H' ∧ R p H') ∨ (J.go i H' ∧ ∀ x H2, J.yld i H' x H2 → g x σ' H2 fun σ2 H3 => tc σ2 H3 fun b H4 => if b = true then te σ2 H4 fun v H5 => ys.length < sizeLine ∧ H5 p = some (.lst ys) ∧ (∃ m', m' < m ∧ W (i + 1) m' (ys ++ [v]) σ2 (upd H5 p (.lst (ys ++ [v]))))
        else ∃ m', m' < m ∧ W (i + 1) m' ys σ2 H4) := by
  intro p hp
  refine ⟨fun i m ys σ' H' => m = n - i ∧ i ≤ n ∧ ys.length ≤ i ∧ Pv p i ys σ' H' ∧ H' p = some (.lst ys), ⟨n, by simp, Nat.zero_le _, Nat.zero_le _, hp0 p hp, upd_same⟩, ?_⟩
  rintro i m ys σ' H' ⟨rfl, hi, hl, pv, hp'⟩
  have o := hok p i ys σ' H' hp pv
  by_cases hlt : i < n
  · refine .inr ⟨Y.go i H' hlt o, fun x H2 y => hs p i ys σ' H' x H2 hp hlt hl pv hp' (Y.yld i H' x H2 hlt o y) _ _ (fun v σ2 H5 h5 pv5 => ⟨by rw [sizeLine_eq]; omega, h5, n - (i + 1), by omega, rfl, hlt, by simp; omega, pv5, upd_same⟩) fun σ2 H4 h4 pv4 => ⟨n - (i + 1), by omega, rfl, hlt, by omega, pv4, h4⟩⟩
  · have e : i = n := by omega
    subst e
    exact .inl ⟨Y.stop H' o, q p ys σ' H' hp pv hp' hl⟩
end
theorem yields_lst {K : PySem.W.Frag} {a : Addr} {xs : List V} : Yields (Itl K a) xs.length (fun i H x H' => H' = H ∧ xs[i]? = some x) (fun H => H a = some (.lst xs)) :=
  ⟨fun i H hi o => ⟨xs, xs[i], SqL.of o, by simp [hi]⟩, fun i H x H' hi o ⟨e, y⟩ => ⟨e, y xs (SqL.of o)⟩, fun H o => ⟨xs, SqL.of o, Nat.le_refl _⟩⟩
theorem Inv.freezeT {X : Cx} {pins : List (Addr × Obj)} {σ : St} {H : Hp} {s : Shared} {d : Addr} {kvs : List (List Key × V)} (I : Inv X pins σ H s) (h : H d = some (.dT kvs)) : ∃ o, Inv X pins σ (upd H d (.frz o (.dT kvs))) s := by
  obtain ⟨z, y, xs, r, o, es, ep, h1, h2⟩ := (show ObjOk X.prog X.w H s.heap d (.dT kvs) from I.hok d _ h)
  refine ⟨o, d_write (t' := s.toks) I (by rw [h]; exact True.intro) ⟨rfl, fun _ _ => rfl⟩ ⟨o, h1⟩ ⟨h1, z, y, xs, KT.keeps r fun b ys e => ?_, o, es, ep, h1, h2⟩⟩
  rw [upd_ne (ne_of e h (fun z => nomatch z))]; exact e
theorem Inv.thawT {X : Cx} {pins : List (Addr × Obj)} {σ : St} {H : Hp} {s : Shared} {d : Addr} {o : Obj} {kvs : List (List Key × V)} (I : Inv X pins σ H s) (h : H d = some (.frz o (.dT kvs))) (hn : ∀ o u, X.H₀ d ≠ some (.frz o u)) : Inv X pins σ (upd H d (.dT kvs)) s := by
  have ne : ∀ {b : Addr} {u : HO}, H b = some u → u ≠ .frz o (.dT kvs) → b ≠ d := fun e z => ne_of e h z
  have nd : ∀ {b : Addr}, H b = none → b ≠ d := fun {b} e z => by subst z; rw [h] at e; cases e
  have B := I.base
  refine ⟨I.ok, I.os, I.bare, ⟨B.keep, B.slot, fun b o' e n hx => ?_, B.there, fun b xs e => ?_, fun b o' u e => ?_, fun b ps e => ?_⟩, I.loc, I.cell, ?_, fun x c e => ?_, fun p hp => ?_, fun b u e => ?_, I.len⟩
  · have := B.free b o' e n hx; rw [upd_ne (nd this)]; exact this
  · have := B.tups b xs e; rw [upd_ne (ne this (fun z => nomatch z))]; exact this
  · have := B.frzs b o' u e
    rw [upd_ne (fun z => by subst z; exact hn o' u e)]; exact this
  · obtain ⟨m, q⟩ := B.tbls b ps e
    exact ⟨m, by rw [upd_ne (ne q (fun z => nomatch z))]; exact q⟩
  · rw [upd_ne (nd I.free)]; exact I.free
  · have := I.freeC x c e; rw [upd_ne (nd this)]; exact this
  · obtain ⟨p1, p2, p3⟩ := I.pin p hp
    exact ⟨p1, by rw [upd_ne (nd p2)]; exact p2, p3⟩
  · have st : ∀ {b : Addr} {u : HO}, ObjOk X.prog X.w H s.heap b u → ObjOk X.prog X.w (upd H d (.dT kvs)) s.heap b u := fun x =>
      x.stay (fun _ _ _ q => q) (fun c q => by rw [upd_ne (ne q (fun z => nomatch z))]; exact q) (fun c xs q => by rw [upd_ne (ne q (fun z => nomatch z))]; exact q) fun c ob q => by rw [upd_ne (ne q (fun z => by cases z))]; exact q
    by_cases hb : b = d
    · subst hb; rw [upd_same] at e; cases e
      exact st (I.hok b _ h).2
    · rw [upd_ne hb] at e; exact st (I.hok b u e)
theorem Inv.notFrz {X : Cx} {pins : List (Addr × Obj)} {σ : St} {H : Hp} {s : Shared} {d : Addr} {kvs : List (List Key × V)} (I : Inv X pins σ H s) (h : H d = some (.dT kvs)) : ∀ o u, X.H₀ d ≠ some (.frz o u) := fun o u e => by
  have := I.base.frzs d o u e
  rw [h] at this; cases this
noncomputable def tThaw (te : TE) : TE := fun σ H Q => ∃ d kvs, H d = some (.dT kvs) ∧ te σ H fun v H' => ∃ o kvs', H' d = some (.frz o (.dT kvs')) ∧ Q v (upd H' d (.dT kvs'))
theorem pe_thaw {X : Cx} {e : Expr} {te : TE} (h : PE X e te) : PE X e (tThaw te) := by
  intro pins s σ H Q I ⟨d, kvs, hd, q⟩
  have nf := I.notFrz hd
  refine thn (h pins s σ H _ I q) fun u s1 ⟨v, H1, I1, r1, o, kvs', hz, q2⟩ => ?_
  exact ⟨v, _, I1.thawT hz nf, r1, q2⟩
noncomputable def ItiT (d : Addr) (o : Obj) : It :=
  ⟨fun i H => ∃ kvs kv, H d = some (.frz o (.dT kvs)) ∧ kvs[i]? = some kv, fun i H v H' => ∃ p b kv, v = .ref p ∧ H p = none ∧ H b = some (.tup (kv.1.map kV)) ∧ H' = upd H p (.tup [.ref b, kv.2]) ∧ ∀ kvs, H d = some (.frz o (.dT kvs)) → kvs[i]? = some kv, fun i H => ∃ kvs, H d = some (.frz o (.dT kvs)) ∧ kvs.length ≤ i⟩
theorem Inv.entZ {X : Cx} {pins : List (Addr × Obj)} {σ : St} {H : Hp} {s : Shared} {d : Addr} {o : Obj} {kvs : List (List Key × V)} {es : Array DictEntry} {ep : Nat} (I : Inv X pins σ H s) (h : H d = some (.frz o (.dT kvs))) (ho : o.data = .dict es ep) : DEnt s.heap d es ep ∧ EntT H kvs es := by
  obtain ⟨g, z, y, xs, r, o', es', ep', h1, h2, h3, h4, h5⟩ := I.hok d _ h
  rw [g] at h1; cases h1
  rw [ho] at h3; cases h3
  refine ⟨⟨o, g, h2, ho⟩, ?_⟩
  unfold EntT
  rw [h4]
  clear h4 h5 z h
  induction r with
  | nil => exact .nil
  | @cons p q ps qs hq t ih => exact .cons ⟨q.2.1, rfl, hq.2.1, hq.2.2⟩ ih
theorem turn_itemsT {P : Program} {w : World} {K : PySem.W.Frag} {elts : List Expr} {c : Nat} {pos : Pos} {it d : Addr} {o : Obj} {es : Array DictEntry} {ep : Nat} (hod : o.data = .dict es ep) : Turn P w K (.Tuple elts c pos) (ItiT d o) [it] it (fun i h => ItAt h it d i es.size ep) where
  mem := by simp
  obj := fun i h st b hb => by
    obtain ⟨_, _, _, _, e, _⟩ := st
    rw [List.mem_singleton.mp hb]
    exact ⟨_, e, fun v z => by cases z⟩
  keep := fun i h h' st k => st.at fun o e => k it (by simp) o e
  item := by
    intro X hP hw hK hc i pins s σ H E I hf st hg
    subst hP hw hK
    obtain ⟨kvs, kv, hH, hx⟩ := hg
    obtain ⟨de, en⟩ := I.entZ hH hod
    have li : i < es.size := by rw [en.size]; exact (List.getElem?_eq_some_iff.mp hx).1
    obtain ⟨kv', b, w1, w2, w3, w4⟩ := en.at (Array.getElem?_eq_getElem li)
    rw [hx] at w1; cases w1
    have lt : s.heap.objs.size ≠ it := let ⟨_, _, _, _, e, _⟩ := st; Nat.ne_of_gt (Heap.lt_size e)
    refine item_next st de li fun h' st' T1 sz k1 => ⟨_, rfl, ?_⟩
    refine item_go (s := { s with heap := h' }) st' fun h2 st2 sb => ?_
    have T2 := (sb.2 _ lt).trans T1
    refine ⟨.ref s.heap.objs.size, upd H s.heap.objs.size (.tup [.ref b, kv.2]), I.turnedNew (t' := s.toks) hf (fun b u hb e => (sb.2 _ (by simpa using hb)).trans (k1 b u (by simpa using hb) e)) (Nat.le_refl _) ⟨by show 2 ≤ _; decide, [es[i].key, es[i].val], .cons (by rw [w2]; rfl) (.cons w4 .nil), _, T2, rfl, _, rfl, rfl⟩, rfl, ⟨_, b, kv, rfl, I.hok.fresh (Nat.le_refl _), w3, rfl, fun ks hk => by rw [hH] at hk; cases hk; exact hx⟩, st2, fun b hb => ?_⟩
    rw [List.mem_singleton.mp hb, upd_ne (Ne.symm lt)]
    exact (hf it (by simp)).1
  done := by
    intro X hP hw hK hc i pins s σ H E I hf st hg
    subst hP hw hK
    obtain ⟨kvs, hH, hx⟩ := hg
    obtain ⟨de, en⟩ := I.entZ hH hod
    exact item_end (I.ok.hd hc) st de (by rw [en.size]; exact hx) fun h' eb => ⟨rfl, I.turnedL (t' := s.toks) hf fun c o hc' q => eb c o (by simpa using hc') q⟩
  self := fun A i s Q E st h => by
    obtain ⟨f0, f1, ok, ov, e, _⟩ := st
    have hT : s.TypeIs (.ref it) "dict_itemiterator" := ⟨_, e, rfl⟩
    refine wpAny_pyIter_slot hT F.slot_dict_itemiterator_iter (wpAny_call_entry F.slot_dict_itemiterator_iter hT entry_itemiter_iter ?_ (F.args_dict_itemiterator_iter_1 _))
    show wpAny _ _ (ret (.ref it)) _ _ s
    exact wpAny_pure ⟨_, rfl, "dict_itemiterator", _, hT, F.slot_dict_itemiterator_next.lookup, h⟩
noncomputable def iItemsT (to : TE) : TI := fun σ H R => to σ H fun x H1 => ∃ d kvs, x = .ref d ∧ ((H1 d = some (.dT kvs) ∧ ∀ o, R (ItiT d o) (upd H1 d (.frz o (.dT kvs)))) ∨ ∃ o, H1 d = some (.frz o (.dT kvs)) ∧ R (ItiT d o) H1)
theorem Inv.frozenT {X : Cx} {pins : List (Addr × Obj)} {σ : St} {H : Hp} {s : Shared} {d : Addr} {kvs : List (List Key × V)} {R : Obj → Hp → Prop} (I : Inv X pins σ H s) (q : (H d = some (.dT kvs) ∧ ∀ o, R o (upd H d (.frz o (.dT kvs)))) ∨ ∃ o, H d = some (.frz o (.dT kvs)) ∧ R o H) :
    ∃ o H2, Inv X pins σ H2 s ∧ H2 d = some (.frz o (.dT kvs)) ∧ R o H2 := by
  rcases q with ⟨e, q⟩ | ⟨o, e, q⟩
  · obtain ⟨o, I2⟩ := I.freezeT e
    exact ⟨o, _, I2, upd_same, q o⟩
  · exact ⟨o, H, I, e, q⟩
theorem pi_itemsT {X : Cx} {elts : List Expr} {c : Nat} {tpos apos cpos : Pos} {o : Expr} {to : TE} (ho : PE X o to) (hbase : attributeBase o "items" X.env (eval o X.env) = eval o X.env := by rfl) (hline : (apos.endLine == cpos.line) = true := by rfl) :
    PI X (.Tuple elts c tpos) (.Call (.Attribute o "items" apos) [] [] cpos) (iItemsT to) := by
  intro pins s σ H R I h
  refine wpAny_Call_method0_late hbase hline (thn (ho pins s σ H _ I h) fun v s1 ⟨x, H1, I1, r1, d, kvs, ex, q1⟩ => ?_)
  subst ex
  cases r1
  obtain ⟨ob, H2, I2, e2, q⟩ := I1.frozenT (R := fun o H => R (ItiT d o) H) q1
  obtain ⟨lo, z, nd, es, ep, ⟨ob', g1, x1, d1⟩, en⟩ := I2.entT (.inr ⟨ob, e2⟩)
  obtain ⟨g2, _⟩ := I2.hok d _ e2
  rw [g2] at g1; cases g1
  have de : DEnt s1.heap d es ep := ⟨ob, g2, x1, d1⟩
  refine ⟨"dict", "dict.items", F.plainAttrs_dict, F.slot_dict_items, F.type_dict_items, de.ty, (fun b e => by cases e; exact ⟨ob, g2, x1.2.1⟩), Calls.callWith_builtin rfl (PySem.evalArgs_none ?_)⟩
  refine call_meetsIn F.slot_dict_items de.ty F.entry_dict_items (F.args_dict_items_1 _) (view_items lo) ⟨⟨es, ep, de⟩, ?_⟩
  have I3 : Inv X pins σ H2 { s1 with heap := s1.heap.push { cls := .type "dict_items", data := .fields #[.ref d] } } := I2.kept (t' := s1.toks) fun b u e => Heap.get?_push_of_some _ e
  show wpAny _ _ (pyIter (.ref s1.heap.objs.size)) _ _ { s1 with heap := s1.heap.push { cls := .type "dict_items", data := .fields #[.ref d] } }
  refine item_iter (s := { s1 with heap := s1.heap.push { cls := .type "dict_items", data := .fields #[.ref d] } }) ⟨_, Heap.get?_push_size _ rfl, rfl, rfl⟩ (de.at fun o e => Heap.get?_push_of_some _ e) fun h' ii k' => ?_
  refine ⟨_, [(s1.heap.push { cls := .type "dict_items", data := .fields #[.ref d] }).objs.size], _, _, H2, rfl, I3.kept (t' := s1.toks) k', turn_itemsT d1, ⟨_, _, _, _, ii, .inl rfl⟩, fun b hb => ?_, q⟩
  rw [List.mem_singleton.mp hb]
  exact I3.fpOk (Nat.le_refl _) (I3.hok.fresh (Nat.le_refl _))
theorem yields_itemsT {d : Addr} {o : Obj} {kws : List (List Int × V)} : Yields (ItiT d o) kws.length (fun i H x H' => ∃ p b kw, x = .ref p ∧ H p = none ∧ H b = some (.tup (iv kw.1)) ∧ H' = upd H p (.tup [.ref b, kw.2]) ∧ kws[i]? = some kw) (fun H => H d = some (.frz o (.dT (kws.map kI)))) :=
  ⟨fun i H hi h => ⟨_, kI kws[i], h, by simp [hi]⟩, fun i H x H' hi h ⟨p, b, kv, e1, e2, e3, e4, e5⟩ => by
    have := e5 _ h
    rw [List.getElem?_map, Option.map_eq_some_iff] at this
    obtain ⟨kw, h1, h2⟩ := this
    subst h2
    exact ⟨p, b, kw, e1, e2, keys_inl e3, e4, h1⟩, fun H h => ⟨_, h, by simp⟩⟩
end L2
set_option Elab.async false
set_option linter.all false
set_option maxRecDepth 100000
set_option maxHeartbeats 4000000
namespace L2
open PySem PySem.Spec PyProof.Rows
noncomputable def tEmitT (p : Addr) (tk tv : TE) : TB := fun σ H Q => tk σ H fun k H1 => tv σ H1 fun v H2 => ∃ (b : Addr) (key : List Key) (kvs : List (List Key × V)), k = .ref b ∧ H2 b = some (.tup (key.map kV)) ∧ H2 p = some (.dT kvs) ∧ kvs.length ≤ 100000 ∧ Q σ (upd H2 p (.dT (putK kvs key v)))
theorem pb_emitT {X : Cx} {p : Addr} {kx vx : Expr} {tk tv : TE} (hu : X.A.units + 1 < cLine) (hk : PE X kx tk) (hv : PE X vx tv) : PB X p (emitD kx vx) (tEmitT p tk tv) := by
  intro pins s σ H Q I h
  show wpAny _ _ (do let kv ← eval kx X.env; let vv ← holding [kv] (eval vx X.env); standAt { kx.pos with endLine := vx.pos.endLine, endCol := vx.pos.endCol }; holding [kv, vv] (dictSet p kv vv)) _ _ s
  refine wpAny_bind (thn (hk pins s σ H _ I h) fun u s1 ⟨k, H1, I1, r1, h1⟩ => ?_)
  refine wpAny_bind (wpAny_holding (thn (hv pins s1 σ H1 _ I1 h1) fun u' s2 ⟨v, H2, I2, r2, b, key, kvs, ek, eb, hH, hz, q⟩ => ?_))
  subst ek
  cases r1
  refine wpAny_bind (wpAny_standAt (wpAny_holding ?_))
  obtain ⟨z, hd, xs, rel, dd⟩ := dt_of I2.hok hH
  have hvl : kvs.length = xs.length := Paired.length rel
  refine wpAny_dictSet_heap (knd := tupleKind (mixKind X.prog X.w)) (by show X.A.units < cLine; omega) (key_of I2.hok eb) dd (fun h' dd' hs => ?_) (by rw [sizeLine_eq]; omega)
  obtain ⟨qo, es, ep, hq, h2, h3, h4, _, h5⟩ := dd'
  refine ⟨σ, _, d_write (ob := .dT (putK kvs key v)) I2 (by rw [hH]; exact True.intro) hs ⟨qo, hq⟩ ⟨?_, hd, _, (rel.put key eb r2).keeps fun c ys ec => ?_, qo, es, ep, hq, h2, h3, h4, h5⟩, q⟩
  · have := length_putK kvs key v
    rw [sizeLine_eq]; omega
  · rw [upd_ne (ne_of ec hH (fun z => nomatch z))]
    exact ec
noncomputable def tDCompT (σ0 : St → St) (wi : TI) (g : TG) (tc : TT) (tk tv : TE) : TE := fun σ H Q => wi σ H fun J H1 => ∀ p, H1 p = none → LoopW J g tc (tEmitT p tk tv) (σ0 σ) (upd H1 p (.dT [])) fun _ H' => Q (.ref p) H'
theorem comp_coreT {X : Cx} {kx vx tg iter : Expr} {ifs : List Expr} {scope : Scope} {pos pos2 : Pos} {wi : TI} {g : TG} {tc : TT} {tk tv : TE} {N : List Str} {σ0 : St → St} {pins : List (Addr × Obj)} {s : Shared} {σ : St} {H : Hp} {Q : VK} {use : Option (Value → Sem Unit)} {QQ : Value → Shared → Prop}
    (hu : X.A.units + 1 < cLine) (hc : X.calm = true) (hxe : ∀ e s, X.xe e s → False) (hcell : ∀ y ∈ scope.names, y.2 ≠ .cell) (hkind : scope.kind = .function) (hnames : ∀ y ∈ scope.names, y.2 = .local → scope.names.lookup y.1 = some .local)
    (hfr : ∀ y ∈ scope.names, y.2 = .free → X.env.kindOf y.1 = some .cell ∨ X.env.kindOf y.1 = some .free) (hσ : Sees X scope N σ0)
    (hi : PI X tg iter wi)
    (hg : ∀ cl C s H ex, PG (cxComp X scope N cl C s H ex) tg g) (ht : ∀ cl C s H ex, PTs (cxComp X scope N cl C s H ex) ifs tc) (hk : ∀ cl C s H ex, PE (cxComp X scope N cl C s H ex) kx tk) (hv : ∀ cl C s H ex, PE (cxComp X scope N cl C s H ex) vx tv)
    (hs : ∀ x, foldedSetIterable iter X.env x = pure x) (I : Inv X pins σ H s) (h : tDCompT σ0 wi g tc tk tv σ H Q)
    (hend : ∀ (p C : Addr) (H' : Hp) (s' : Shared) (m : Str → Option Value) (f : Flow), Inv X pins σ H' s' → FpOk X pins H' C → s'.heap.Ns C m → (∀ h', Heap.SameBut C s'.heap h' → Inv X pins σ H' { s' with heap := h' }) → Q (.ref p) H' →
      compPost (model X.prog X.w) X.A X.xe use QQ (.ref p) C (.ok f) s') :
    wpAny (model X.prog X.w) X.A (comprehension (.DictComp kx vx [⟨tg, iter, ifs, 0⟩] scope pos) scope X.env pos2 newDict false (eval iter X.env) use) QQ X.xe s := by
  obtain ⟨cl, hclos, hcl1, hcl2⟩ := closure_of (env := X.env) (scope := scope) fun y hy hf => I.ok.has y.1 (hfr y hy hf)
  refine wpAny_comprehension_free (use := use) rfl hs hclos hkind hnames (thn (hi pins s σ H _ I h) fun v s1 h1 => thn h1 fun itv s2 h2 => ?_)
  obtain ⟨it, fp, tn, J, H2, e, I2, T, st2, f2, h3⟩ := h2
  subst e
  have hpn : H2 s2.heap.objs.size = none := I2.hok.fresh (Nat.le_refl _)
  have h4 := h3 _ hpn
  refine wpAny_newDict0 ?_
  generalize hp : s2.heap.objs.size = p at *
  have I3 : Inv X pins σ (upd H2 p (.dT [])) { s2 with heap := s2.heap.push { cls := .type "dict", data := .dict #[] } } := by
    have q := dt_empty (P := X.prog) (w := X.w) (H := upd H2 s2.heap.objs.size (.dT [])) s2.heap I2.big
    rw [hp] at q
    exact I2.laid (a := p) (o := .dT []) (t' := s2.toks) (fun b u q => Heap.get?_push_of_some _ q) (Nat.le_of_eq hp) q
  have hf3 : ∀ b ∈ fp, FpOk X pins (upd H2 p (.dT [])) b := fun b hb => by
    obtain ⟨o, ho, _⟩ := T.obj _ _ st2 b hb
    have : b ≠ p := by rw [← hp]; exact Nat.ne_of_lt (Heap.lt_size ho)
    exact ⟨by rw [upd_ne this]; exact (f2 b hb).1, (f2 b hb).2⟩
  generalize hs3 : ({ s2 with heap := s2.heap.push { cls := .type "dict", data := .dict #[] } } : Shared) = s3 at *
  have st3 : tn 0 s3.heap := by rw [← hs3]; exact T.keep _ _ _ st2 fun b _ o e => Heap.get?_push_of_some _ e
  generalize hH3 : upd H2 p (.dT []) = H3 at *
  refine wpAny_newFunctionEnv hcell (by intro y hy; simp at hy) (fun h1 hns1 hsb1 => ?_) hkind
  generalize hC : s3.heap.objs.size = C at *
  have keep : ∀ b u, s3.heap.get? b = some u → h1.get? b = some u := fun b u q =>
    hsb1.extBut b u (by rw [← hC]; exact Nat.ne_of_lt (Heap.lt_size q)) (Heap.get?_push_of_some _ q)
  have fpC : ∀ b ∈ fp, b ≠ C := fun b hb => by
    obtain ⟨o, ho, _⟩ := T.obj _ _ st3 b hb
    rw [← hC]; exact Nat.ne_of_lt (Heap.lt_size ho)
  have hCn : H3 C = none := I3.hok.fresh (Nat.le_of_eq hC)
  have ok' : (cxComp X scope N cl C s3 H3 fp).Ok := by
    refine ⟨I3.mod, hkind, I3.ok.glob, I3.ok.blt, Nat.le_of_eq hC, fun x y c a b => I3.ok.inj x y c (hcl1 x c a) (hcl1 y c b), fun x hx => ?_, fun _ _ z => Bool.noConfusion (show false = true from z), I3.ok.hd, I3.ok.frames, .inl rfl, fun b hb => ⟨fpC b hb, fun x c q => (hf3 b hb).2.2.2.2.1 x c (hcl1 x c q)⟩,
      I3.bs, Nat.le_trans I3.ok.bsz I3.sz, fun b o e hb => ?_, fun b hb z => ?_, I3.stack, I3.stkFree⟩
    · have hx' : (relabel scope X.env).names.lookup x = some .cell ∨ (relabel scope X.env).names.lookup x = some .free := hx
      rcases hx' with z | z
      · rcases lookup_relabel_mem z with y | ⟨_, y⟩
        · exact absurd rfl (hcell _ y)
        · exact hcl2 x y
      · rcases lookup_relabel_mem z with y | ⟨y, _⟩
        · exact hcl2 x y
        · cases y
    · rcases (hf3 b hb).2.2.2.1 with z | z
      · exact I3.ok.noex b o e z
      · exact absurd (Nat.lt_of_lt_of_le (Heap.lt_size e) (Nat.le_trans I3.ok.bsz z)) (Nat.lt_irrefl _)
    · rcases List.mem_cons.mp (I3.stkSub b z) with q | q
      · exact (hf3 b hb).2.1 q
      · exact (hf3 b hb).2.2.1 q
  have J0 : Inv (cxComp X scope N cl C s3 H3 fp) [] (σ0 σ) H3 { s3 with heap := h1, toks := s3.toks + ([] : List (Str × Value)).length } := by
    refine ⟨ok', rfl, I3.bare, Un.kept keep, ⟨_, hns1, fun i x v a b c => ?_⟩, fun x c q => ?_, hCn, fun x c q => I3.freeC x c (hcl1 x c q), fun q hq => absurd (show q ∈ ([] : List (Addr × Obj)) from hq) (by simp), I3.hok.kept keep, (hσ σ).1⟩
    · obtain ⟨hf, j, hj, hv⟩ := (hσ σ).2 i x v a b
      have hm := mem_of_lookupF hf
      obtain ⟨m, hn, hl⟩ := id I3.loc
      have hk := hfr _ hm rfl
      have hvis : Vis X.env.scope x := hk.elim (fun z => .inr (.inl z)) fun z => .inr (.inr z)
      obtain ⟨u, r, lk⟩ := hl j x v hj hv hvis
      refine ⟨u, r, .inr ⟨lookup_relabel_free hf, ?_⟩⟩
      obtain ⟨c', hc'⟩ := hcl2 x hm
      refine ⟨c', hc', ?_⟩
      have hx := hcl1 x c' hc'
      rcases lk with ⟨kl, _⟩ | ⟨_, c2, e2, o2, ho2, hd2⟩
      · rcases hk with z | z <;> rw [kl] at z <;> cases z
      · rw [hx] at e2
        cases e2
        exact ⟨o2, keep _ _ ho2, hd2⟩
    · obtain ⟨v, o, ho, hd⟩ := I3.cell x c (hcl1 x c q)
      exact ⟨v, o, keep _ _ ho, hd⟩
  have st4 : tn 0 h1 := T.keep _ _ _ st3 fun b _ o e => keep b o e
  have stat : ∀ {H' : Hp}, (∀ b ∈ fp, H' b = none) → ∀ b ∈ fp, FpOk (cxComp X scope N cl C s3 H3 fp) [] H' b := fun hn b hb =>
    ⟨hn b hb, fpC b hb, fun z => ok'.exfs b hb z, .inl hb, fun x c q => (hf3 b hb).2.2.2.2.1 x c (hcl1 x c q), fun q hq => absurd (show q ∈ ([] : List (Addr × Obj)) from hq) (by simp)⟩
  have back : ∀ {σ' : St} {H' : Hp} {s' : Shared} {pl : List (Addr × Obj)}, Inv (cxComp X scope N cl C s3 H3 fp) pl σ' H' s' → ∀ h', Heap.SameBut C s'.heap h' → Inv X pins σ H' { s' with heap := h' } := fun {σ' H' s' pl} J h' hsb => by
    have I5 : Inv X pins σ H' s' := Inv.call' (ch := fp) I3 J.os J.base J.hok J.bare fun b hb => ⟨(hf3 b hb).2.2.2.1, (hf3 b hb).2.1, (hf3 b hb).2.2.2.2.1, (hf3 b hb).2.2.2.2.2⟩
    refine Inv.turned (it := C) (t' := s'.toks) I5 (fun b o hb e => hsb.extBut b o hb e) J.free (fun z => ?_) (.inr ?_) (fun x c q z => ?_) fun q hq z => ?_
    · exact absurd (show X.env.locals < C by rw [← hC]; exact I3.lt) (by rw [z]; exact Nat.lt_irrefl _)
    · rw [← hC]; exact I3.sz
    · obtain ⟨v, o, ho, _⟩ := I3.cell x c q
      have := Heap.lt_size ho
      rw [z, hC] at this
      exact Nat.lt_irrefl _ this
    · have := Heap.lt_size (I3.pin q hq).1
      rw [z, hC] at this
      exact Nat.lt_irrefl _ this
  have ff : ∀ b ∈ fp, FpOk (cxComp X scope N cl C s3 H3 fp) [] H3 b := stat fun b hb => (hf3 b hb).1
  have loop : codeAny (model X.prog X.w) X.A (.compLoop (.DictComp kx vx [⟨tg, iter, ifs, 0⟩] scope pos) 0 (.ref it) (.ref p) (compEnvC scope cl C X.env)) (compPost (model X.prog X.w) X.A X.xe use QQ (.ref p) C) { s3 with heap := h1, toks := s3.toks + ([] : List (Str × Value)).length } := by
    refine loop_ofD (X := cxComp X scope N cl C s3 H3 fp) (Q := fun _ H' => Q (.ref p) H') (turn_d _ _ _ _ _ _ _ _ _ _) hc hxe T (hg cl C s3 H3 fp) (ht cl C s3 H3 fp) (pb_emitT hu (hk cl C s3 H3 fp) (hv cl C s3 H3 fp)) J0 st4 ff h4 ?_
    intro s4 σ' H' I4 q
    obtain ⟨m, hn, _⟩ := id I4.loc
    have I5 : Inv X pins σ H' s4 := Inv.call' (ch := fp) I3 I4.os I4.base I4.hok I4.bare fun b hb => ⟨(hf3 b hb).2.2.2.1, (hf3 b hb).2.1, (hf3 b hb).2.2.2.2.1, (hf3 b hb).2.2.2.2.2⟩
    exact hend p C H' s4 m _ I5 (I3.fpOk (Nat.le_of_eq hC) I4.free) hn (fun h' hsb => back I4 h' hsb) q
  exact codeAny_compStart_dict loop (T.self X.A 0 _ _ _ st4 loop)
theorem pe_dcompT {X : Cx} {kx vx tg iter : Expr} {ifs : List Expr} {scope : Scope} {pos : Pos} {wi : TI} {g : TG} {tc : TT} {tk tv : TE} {N : List Str} {σ0 : St → St}
    (hu : X.A.units + 1 < cLine) (hc : X.calm = true) (hxe : ∀ e s, X.xe e s → False) (hcell : ∀ y ∈ scope.names, y.2 ≠ .cell) (hkind : scope.kind = .function) (hnames : ∀ y ∈ scope.names, y.2 = .local → scope.names.lookup y.1 = some .local)
    (hfr : ∀ y ∈ scope.names, y.2 = .free → X.env.kindOf y.1 = some .cell ∨ X.env.kindOf y.1 = some .free) (hσ : Sees X scope N σ0)
    (hi : PI X tg iter wi)
    (hg : ∀ cl C s H ex, PG (cxComp X scope N cl C s H ex) tg g) (ht : ∀ cl C s H ex, PTs (cxComp X scope N cl C s H ex) ifs tc) (hk : ∀ cl C s H ex, PE (cxComp X scope N cl C s H ex) kx tk) (hv : ∀ cl C s H ex, PE (cxComp X scope N cl C s H ex) vx tv)
    (hs : ∀ x, foldedSetIterable iter X.env x = pure x := by intro _; rfl) : PE X (.DictComp kx vx [⟨tg, iter, ifs, 0⟩] scope pos) (tDCompT σ0 wi g tc tk tv) := by
  intro pins s σ H Q I h
  show wpAny _ X.A (comprehension (.DictComp kx vx [⟨tg, iter, ifs, 0⟩] scope pos) scope X.env _ newDict false (eval iter X.env) none) _ _ s
  refine comp_coreT (use := none) (QQ := EP X pins σ Q) hu hc hxe hcell hkind hnames hfr hσ hi hg ht hk hv hs I h ?_
  intro p C H' s' m f I5 fC hn back q
  exact ⟨m, hn, fun h' hsb => ⟨.ref p, H', back h' hsb, rfl, q⟩⟩
end L2
set_option Elab.async false
set_option linter.all false
set_option maxRecDepth 100000
set_option maxHeartbeats 4000000
namespace L2
open PySem PySem.W PySem.Spec PyProof.Rows DI Srt
end L2
set_option Elab.async false
set_option linter.all false
set_option maxRecDepth 100000
set_option maxHeartbeats 1000000
namespace L2
open PySem PySem.Spec PyProof.Rows Srt
noncomputable abbrev Mp := List (List Int × Int)
noncomputable def kII (p : List Int × Int) : List Key × V := (p.1.map Sum.inl, .int p.2)
noncomputable def dI (m : Mp) : HO := .dT (m.map kII)
noncomputable def hasM (m : Mp) (k : List Int) : Bool := m.any fun p => decide (p.1 = k)
noncomputable def getM (m : Mp) (k : List Int) : Int := ((m.find? fun p => decide (p.1 = k)).map (·.2)).getD 0
noncomputable def putM (m : Mp) (k : List Int) (v : Int) : Mp := if hasM m k = true then m.map (fun p => if p.1 = k then (p.1, v) else p) else m ++ [(k, v)]
noncomputable def keysM (m : Mp) : List (List Int) := m.map (·.1)
noncomputable def addM (m : Mp) (r : List Int × Int) : Mp := putM m r.1 (getM m r.1 + r.2)
noncomputable def gath (rows : Mp) : Mp := rows.foldl addM []
theorem inl_inj {a b : List Int} : a.map (Sum.inl : Int → Key) = b.map Sum.inl ↔ a = b := List.map_inj_right fun _ _ e => Sum.inl.inj e
theorem dec_inl (a b : List Int) : decide (a.map (Sum.inl : Int → Key) = b.map Sum.inl) = decide (a = b) := by
  by_cases e : a = b
  · subst e; simp
  · rw [decide_eq_false e, decide_eq_false (fun z => e (inl_inj.mp z))]
theorem any_dI (m : Mp) (k : List Int) : ((m.map kII).any fun kv => decide (kv.1 = k.map Sum.inl)) = hasM m k := by
  unfold hasM
  rw [List.any_map]
  congr 1
  funext p
  exact dec_inl p.1 k
theorem putK_dI (m : Mp) (k : List Int) (v : Int) : putK (m.map kII) (k.map Sum.inl) (.int v) = (putM m k v).map kII := by
  unfold putK putM
  rw [any_dI]
  by_cases h : hasM m k = true
  · rw [if_pos h, if_pos h, List.map_map, List.map_map]
    refine List.map_congr_left fun p _ => ?_
    by_cases e : p.1 = k
    · simp [kII, e]
    · simp [kII, e, inl_inj]
  · rw [if_neg h, if_neg h, List.map_append]; rfl
theorem valV_dI : ∀ (m : Mp) (k : List Int), valV (m.map kII) (k.map Sum.inl) = (m.find? fun p => decide (p.1 = k)).map fun p => V.int p.2
  | [], _ => rfl
  | p :: m, k => by
    rw [List.map_cons, List.find?_cons]
    by_cases e : p.1 = k
    · rw [valV_pos (by simp [kII, e]), decide_eq_true e]; rfl
    · rw [valV_neg (by simp [kII, inl_inj, e]), decide_eq_false e]; exact valV_dI m k
theorem valV_getD (m : Mp) (k : List Int) : (valV (m.map kII) (k.map Sum.inl)).getD (.int 0) = .int (getM m k) := by
  rw [valV_dI]; unfold getM
  cases m.find? fun p => decide (p.1 = k) <;> rfl
theorem hasM_iff {m : Mp} {k : List Int} : hasM m k = true ↔ k ∈ keysM m := by
  unfold hasM keysM
  rw [List.any_eq_true, List.mem_map]
  simp
theorem getM_nil (k : List Int) : getM [] k = 0 := rfl
theorem getM_cons (p : List Int × Int) (m : Mp) (k : List Int) : getM (p :: m) k = if p.1 = k then p.2 else getM m k := by
  unfold getM
  rw [List.find?_cons]
  by_cases e : p.1 = k
  · rw [decide_eq_true e, if_pos e]; rfl
  · rw [decide_eq_false e, if_neg e]
theorem getM_absent {m : Mp} {k : List Int} (h : k ∉ keysM m) : getM m k = 0 := by
  induction m with
  | nil => rfl
  | cons p m ih =>
    rw [getM_cons, if_neg (fun e => h (by simp [keysM, e])), ih fun z => h (by simp only [keysM, List.map_cons, List.mem_cons] at *; exact .inr z)]
theorem getM_mem {m : Mp} (nd : (keysM m).Nodup) {p : List Int × Int} (h : p ∈ m) : getM m p.1 = p.2 := by
  induction m with
  | nil => cases h
  | cons q m ih =>
    rw [getM_cons]
    simp only [keysM, List.map_cons, List.nodup_cons] at nd
    rcases List.mem_cons.mp h with rfl | h
    · rw [if_pos rfl]
    · rw [if_neg (fun e => nd.1 (by rw [e]; exact List.mem_map_of_mem h)), ih nd.2 h]
theorem keys_put (m : Mp) (k : List Int) (v : Int) : keysM (putM m k v) = if hasM m k = true then keysM m else keysM m ++ [k] := by
  unfold putM
  by_cases h : hasM m k = true
  · rw [if_pos h, if_pos h]
    unfold keysM
    rw [List.map_map]
    refine List.map_congr_left fun p _ => ?_
    by_cases e : p.1 = k <;> simp [e]
  · rw [if_neg h, if_neg h]; simp [keysM]
theorem keys_put_mem {m : Mp} {k j : List Int} {v : Int} : j ∈ keysM (putM m k v) ↔ j ∈ keysM m ∨ j = k := by
  rw [keys_put]
  by_cases h : hasM m k = true
  · rw [if_pos h]
    exact ⟨.inl, fun z => z.elim id fun e => by rw [e]; exact hasM_iff.mp h⟩
  · rw [if_neg h]; simp
theorem nodup_put {m : Mp} {k : List Int} {v : Int} (h : (keysM m).Nodup) : (keysM (putM m k v)).Nodup := by
  rw [keys_put]
  by_cases e : hasM m k = true
  · rw [if_pos e]; exact h
  · rw [if_neg e]
    refine List.nodup_append.mpr ⟨h, by simp, fun x hx y hy z => ?_⟩
    rw [List.mem_singleton] at hy
    subst hy z
    exact e (hasM_iff.mpr hx)
theorem getM_map_put (m : Mp) (k j : List Int) (v : Int) : getM (m.map fun p => if p.1 = k then (p.1, v) else p) j = if j = k ∧ hasM m k = true then v else getM m j := by
  induction m with
  | nil => simp [hasM, getM_nil]
  | cons p m ih =>
    rw [List.map_cons, getM_cons, getM_cons, ih]
    have hh : hasM (p :: m) k = (decide (p.1 = k) || hasM m k) := rfl
    rw [hh]
    by_cases e : p.1 = k
    · rw [if_pos e, decide_eq_true e]
      by_cases ej : p.1 = j
      · rw [if_pos ej, if_pos ⟨ej.symm.trans e, rfl⟩]
      · have : j ≠ k := fun z => ej (e.trans z.symm)
        rw [if_neg ej, if_neg (fun z => this z.1), if_neg (fun z => this z.1), if_neg ej]
    · rw [if_neg e, decide_eq_false e, Bool.false_or]
      by_cases ej : p.1 = j
      · have : j ≠ k := fun z => e (ej.trans z)
        rw [if_pos ej, if_neg (fun z => this z.1), if_pos ej]
      · rw [if_neg ej, if_neg ej]
theorem getM_snoc (m : Mp) (k j : List Int) (v : Int) (h : k ∉ keysM m) : getM (m ++ [(k, v)]) j = if j = k then v else getM m j := by
  induction m with
  | nil =>
    rw [List.nil_append, getM_cons]
    by_cases e : k = j
    · rw [if_pos e, if_pos e.symm]
    · rw [if_neg e, if_neg (fun z => e z.symm)]
  | cons p m ih =>
    rw [List.cons_append, getM_cons, getM_cons, ih fun z => h (by simp only [keysM, List.map_cons, List.mem_cons] at *; exact .inr z)]
    by_cases ej : p.1 = j
    · have : j ≠ k := fun z => h (by simp [keysM, ej.trans z])
      rw [if_pos ej, if_pos ej, if_neg this]
    · rw [if_neg ej, if_neg ej]
theorem getM_put (m : Mp) (k j : List Int) (v : Int) : getM (putM m k v) j = if j = k then v else getM m j := by
  unfold putM
  by_cases h : hasM m k = true
  · rw [if_pos h, getM_map_put]
    by_cases e : j = k <;> simp [e, h]
  · rw [if_neg h, getM_snoc _ _ _ _ fun z => h (hasM_iff.mpr z)]
noncomputable def sumAt (rows : Mp) (k : List Int) : Int := (rows.map fun r => if r.1 = k then r.2 else 0).sum
noncomputable def valsM (m : Mp) : List Int := m.map (·.2)
theorem vals_put {m : Mp} (nd : (keysM m).Nodup) (k : List Int) (v : Int) : (valsM (putM m k (getM m k + v))).sum = (valsM m).sum + v := by
  unfold putM
  by_cases h : hasM m k = true
  · rw [if_pos h]
    have hk : ∀ (m : Mp), (keysM m).Nodup → k ∈ keysM m → (valsM (m.map fun p => if p.1 = k then (p.1, getM m k + v) else p)).sum = (valsM m).sum + v := by
      intro m
      have gen : ∀ (m : Mp) (g : Int), (keysM m).Nodup → (k ∈ keysM m → g = getM m k) → (valsM (m.map fun p => if p.1 = k then (p.1, g + v) else p)).sum = (valsM m).sum + if k ∈ keysM m then v else 0 := by
        intro m g
        induction m with
        | nil => intro _ _; simp [valsM, keysM]
        | cons p m ih =>
          intro nd hg
          simp only [keysM, List.map_cons, List.nodup_cons] at nd
          have hk' : k ∈ keysM (p :: m) ↔ k = p.1 ∨ k ∈ keysM m := by simp [keysM]
          by_cases e : p.1 = k
          · have hnk : k ∉ keysM m := by rw [← e]; exact nd.1
            have hgv : g = p.2 := by rw [hg (hk'.mpr (.inl e.symm)), getM_cons, if_pos e]
            have := ih nd.2 (fun z => absurd z hnk)
            rw [if_neg hnk] at this
            simp only [valsM, List.map_cons, List.sum_cons] at this ⊢
            rw [if_pos e, if_pos (hk'.mpr (.inl e.symm))]
            rw [this, hgv]; omega
          · have := ih nd.2 (fun z => by rw [hg (hk'.mpr (.inr z)), getM_cons, if_neg e])
            simp only [valsM, List.map_cons, List.sum_cons] at this ⊢
            rw [if_neg e, this]
            by_cases z : k ∈ keysM m
            · rw [if_pos z, if_pos (hk'.mpr (.inr z))]; omega
            · rw [if_neg z, if_neg (fun q => (hk'.mp q).elim (fun r => e r.symm) z)]; omega
      intro nd hm
      have := gen m (getM m k) nd fun _ => rfl
      rwa [if_pos hm] at this
    exact hk m nd (hasM_iff.mp h)
  · rw [if_neg h]
    rw [getM_absent fun z => h (hasM_iff.mpr z)]
    simp [valsM]
theorem gath_snoc (rows : Mp) (r : List Int × Int) : gath (rows ++ [r]) = addM (gath rows) r := by unfold gath; rw [List.foldl_append]; rfl
theorem sumAt_snoc (rows : Mp) (r : List Int × Int) (k : List Int) : sumAt (rows ++ [r]) k = sumAt rows k + if r.1 = k then r.2 else 0 := by unfold sumAt; simp
theorem gath_all : ∀ (n : Nat) (rows : Mp), rows.length = n → (keysM (gath rows)).Nodup ∧ (∀ k, getM (gath rows) k = sumAt rows k) ∧ (∀ k, k ∈ keysM (gath rows) ↔ k ∈ keysM rows) ∧ (valsM (gath rows)).sum = (valsM rows).sum
  | 0, rows, h => by
    have : rows = [] := List.length_eq_zero_iff.mp h
    subst this
    exact ⟨List.nodup_nil, fun _ => rfl, fun _ => Iff.rfl, rfl⟩
  | n + 1, rows, h => by
    obtain ⟨l, r, rfl⟩ : ∃ l r, rows = l ++ [r] := by
      rcases List.eq_nil_or_concat rows with e | ⟨l, r, e⟩
      · subst e; simp at h
      · exact ⟨l, r, by rw [e, List.concat_eq_append]⟩
    obtain ⟨h1, h2, h3, h4⟩ := gath_all n l (by simpa using h)
    rw [gath_snoc]
    refine ⟨nodup_put h1, fun k => ?_, fun k => ?_, ?_⟩
    · unfold addM
      rw [getM_put, sumAt_snoc, h2, h2]
      by_cases e : k = r.1
      · subst e; rw [if_pos rfl, if_pos rfl]
      · rw [if_neg e, if_neg (fun z => e z.symm)]; omega
    · unfold addM
      rw [keys_put_mem, h3]
      simp [keysM, or_comm]
    · unfold addM
      rw [vals_put h1, h4]
      simp [valsM]
theorem gath_nodup (rows : Mp) : (keysM (gath rows)).Nodup := (gath_all _ rows rfl).1
theorem gath_get (rows : Mp) (k : List Int) : getM (gath rows) k = sumAt rows k := (gath_all _ rows rfl).2.1 k
theorem gath_keys (rows : Mp) (k : List Int) : k ∈ keysM (gath rows) ↔ k ∈ keysM rows := (gath_all _ rows rfl).2.2.1 k
theorem gath_sum (rows : Mp) : (valsM (gath rows)).sum = (valsM rows).sum := (gath_all _ rows rfl).2.2.2
theorem perm_of_mem {α : Type} [DecidableEq α] {a b : List α} (ha : a.Nodup) (hb : b.Nodup) (h : ∀ x, x ∈ a ↔ x ∈ b) : a.Perm b := by
  rw [List.perm_iff_count]
  intro x
  rw [ha.count, hb.count]
  by_cases hx : x ∈ a
  · rw [if_pos hx, if_pos ((h x).mp hx)]
  · rw [if_neg hx, if_neg (fun z => hx ((h x).mpr z))]
theorem sum_perm {a b : List Int} (h : a.Perm b) : a.sum = b.sum := by
  induction h with
  | nil => rfl
  | cons x _ ih => simp [ih]
  | swap x y l => simp; omega
  | trans _ _ h1 h2 => exact h1.trans h2
noncomputable def tot (m : Mp) (f : List Int → Int) : Int := (m.map fun p => p.2 * f p.1).sum
theorem tot_keys {m : Mp} (nd : (keysM m).Nodup) (f : List Int → Int) : tot m f = ((keysM m).map fun k => getM m k * f k).sum := by
  unfold tot keysM
  rw [List.map_map]
  congr 1
  refine List.map_congr_left fun p hp => ?_
  show _ = getM m p.1 * f p.1
  rw [getM_mem nd hp]
structure Like (p f : Mp) (x y : Int) : Prop where
  np : (keysM p).Nodup
  nf : (keysM f).Nodup
  keys : ∀ k, k ∈ keysM p ↔ k ∈ keysM f
  vals : ∀ k, getM p k * x = getM f k * y
theorem sum_mul (l : List Int) (c : Int) : (l.map fun a => a * c).sum = l.sum * c := by
  induction l with
  | nil => simp
  | cons a l ih => simp [ih, Int.add_mul]
theorem Like.tot {p f : Mp} {x y : Int} (L : Like p f x y) (φ : List Int → Int) : L2.tot p φ * x = L2.tot f φ * y := by
  rw [tot_keys L.np, tot_keys L.nf, ← sum_mul, ← sum_mul, List.map_map, List.map_map]
  have e : ((keysM p).map ((fun a => a * x) ∘ fun k => getM p k * φ k)) = (keysM p).map ((fun a => a * y) ∘ fun k => getM f k * φ k) := by
    refine List.map_congr_left fun k _ => ?_
    show getM p k * φ k * x = getM f k * φ k * y
    have := L.vals k
    rw [Int.mul_right_comm, this, Int.mul_right_comm]
  rw [e]
  exact sum_perm ((perm_of_mem L.np L.nf L.keys).map _)
noncomputable def rowsM (m : Mp) (g : List Int → Mp) : Mp := m.flatMap fun p => (g p.1).map fun q => (q.1, p.2 * q.2)
theorem sum_flatMap {α : Type} (l : List α) (f : α → List Int) : (l.flatMap f).sum = (l.map fun a => (f a).sum).sum := by
  induction l with
  | nil => rfl
  | cons a l ih => rw [List.flatMap_cons, List.sum_append, List.map_cons, List.sum_cons, ih]
theorem sumAt_rows (m : Mp) (g : List Int → Mp) (k : List Int) : sumAt (rowsM m g) k = tot m fun l => sumAt (g l) k := by
  unfold sumAt rowsM tot
  rw [List.map_flatMap, sum_flatMap]
  congr 1
  refine List.map_congr_left fun p _ => ?_
  rw [List.map_map, Int.mul_comm, ← sum_mul, List.map_map]
  congr 1
  refine List.map_congr_left fun q _ => ?_
  show (if q.1 = k then p.2 * q.2 else 0) = (if q.1 = k then q.2 else 0) * p.2
  by_cases e : q.1 = k
  · rw [if_pos e, if_pos e, Int.mul_comm]
  · rw [if_neg e, if_neg e]; omega
theorem keys_rows {m : Mp} {g : List Int → Mp} {k : List Int} : k ∈ keysM (rowsM m g) ↔ ∃ l ∈ keysM m, k ∈ keysM (g l) := by
  unfold keysM rowsM
  simp only [List.map_flatMap, List.mem_flatMap, List.map_map, List.mem_map]
  constructor
  · rintro ⟨p, hp, q, hq, rfl⟩; exact ⟨p.1, ⟨p, hp, rfl⟩, q, hq, rfl⟩
  · rintro ⟨_, ⟨p, hp, rfl⟩, q, hq, rfl⟩; exact ⟨p, hp, q, hq, rfl⟩
theorem vals_rows (m : Mp) (g : List Int → Mp) : (valsM (rowsM m g)).sum = tot m fun l => (valsM (g l)).sum := by
  unfold valsM rowsM tot
  rw [List.map_flatMap, sum_flatMap]
  congr 1
  refine List.map_congr_left fun p _ => ?_
  rw [List.map_map, Int.mul_comm, ← sum_mul, List.map_map]
  congr 1
  exact List.map_congr_left fun q _ => Int.mul_comm _ _
theorem Like.step {p f : Mp} {x y u v : Int} (L : Like p f x y) {g h : List Int → Mp} (hk : ∀ l ∈ keysM p, ∀ k, k ∈ keysM (g l) ↔ k ∈ keysM (h l)) (hv : ∀ l ∈ keysM p, ∀ k, sumAt (g l) k * u = sumAt (h l) k * v) : Like (gath (rowsM p g)) (gath (rowsM f h)) (x * u) (y * v) := by
  refine ⟨gath_nodup _, gath_nodup _, fun k => ?_, fun k => ?_⟩
  · rw [gath_keys, gath_keys, keys_rows, keys_rows]
    constructor
    · rintro ⟨l, a, b⟩; exact ⟨l, (L.keys l).mp a, (hk l a k).mp b⟩
    · rintro ⟨l, a, b⟩; have a' := (L.keys l).mpr a; exact ⟨l, a', (hk l a' k).mpr b⟩
  · rw [gath_get, gath_get, sumAt_rows, sumAt_rows]
    have e1 : (L2.tot p fun l => sumAt (g l) k) * u = (L2.tot p fun l => sumAt (h l) k) * v := by
      rw [tot_keys L.np, tot_keys L.np, ← sum_mul, ← sum_mul, List.map_map, List.map_map]
      congr 1
      refine List.map_congr_left fun l hl => ?_
      show getM p l * sumAt (g l) k * u = getM p l * sumAt (h l) k * v
      rw [Int.mul_assoc, hv l hl k, Int.mul_assoc]
    have e2 := L.tot fun l => sumAt (h l) k
    rw [Int.mul_comm x u, ← Int.mul_assoc, e1, Int.mul_right_comm, e2, Int.mul_assoc]
noncomputable def rise (ks : List (List Int)) : List (List Int) := ks.mergeSort fun a b => !lexI b a
theorem rising_unique {a b : List (List Int)} (h : a.Perm b) (ha : Rising a) (hb : Rising b) : a = b :=
  List.Perm.eq_of_pairwise (le := fun x y => lexI y x = false) (fun x y _ _ h1 h2 => lexI_tot x y h2 h1) ha hb h
theorem rise_perm (ks : List (List Int)) : (rise ks).Perm ks := List.mergeSort_perm ks _
theorem rise_rising (ks : List (List Int)) : Rising (rise ks) := by
  have := List.pairwise_mergeSort (le := fun a b => !lexI b a) (fun a b c h1 h2 => by simp at *; exact lexI_tr _ _ _ h1 h2) (fun a b => by
    cases h : lexI b a with
    | false => simp
    | true => simp [lexI_asym _ _ h]) ks
  exact this.imp fun {a b} h => by simpa using h
theorem rise_eq {ms ks : List (List Int)} (h : ms.Perm ks) (hr : Rising ms) : ms = rise ks := rising_unique (h.trans (rise_perm ks).symm) hr (rise_rising ks)
theorem rise_congr {a b : List (List Int)} (h : a.Perm b) : rise a = rise b := rising_unique ((rise_perm a).trans (h.trans (rise_perm b).symm)) (rise_rising a) (rise_rising b)
end L2
set_option Elab.async false
set_option linter.all false
set_option maxRecDepth 100000
set_option maxHeartbeats 1000000
namespace L2
open PySem PySem.Spec PyProof.Rows Srt
theorem hu2_of {A : Around} {k : Nat} (hr : Room k A) : A.units + 2 < cLine := by have := hr.un; omega
end L2
set_option Elab.async false
set_option linter.all false
set_option maxRecDepth 100000
set_option maxHeartbeats 1000000
namespace L2
open PySem PySem.Spec PyProof.Rows Srt
theorem yields_zip {K : PySem.W.Frag} {a b : Addr} {xs ys : List V} (hl : xs.length = ys.length) : Yields (Itz K a b) xs.length (fun i H v H' => ∃ p x y, v = .ref p ∧ H p = none ∧ H' = upd H p (.tup [x, y]) ∧ xs[i]? = some x ∧ ys[i]? = some y) (fun H => H a = some (.lst xs) ∧ H b = some (.lst ys)) :=
  ⟨fun i H hi o => ⟨xs, ys, xs[i], ys[i], SqL.of o.1, SqL.of o.2, by simp [hi], by simp [hl ▸ hi]⟩,
   fun i H v H' hi o ⟨p, x, y, e1, e2, e3, e4⟩ => ⟨p, x, y, e1, e2, e3, e4 xs ys (SqL.of o.1) (SqL.of o.2)⟩,
   fun H o => ⟨xs, ys, SqL.of o.1, SqL.of o.2, .inl (Nat.le_refl _)⟩⟩
end L2
namespace L2
open PySem PySem.Spec PyProof.Rows Srt
structure Weak (J J' : It) : Prop where
  go : ∀ i H, J'.go i H → J.go i H
  yld : ∀ i H x H', J'.go i H → J.yld i H x H' → J'.yld i H x H'
  stop : ∀ i H, J'.stop i H → J.stop i H
theorem Turn.weak {P : Program} {w : World} {K : PySem.W.Frag} {tg : Expr} {J J' : It} {fp : List Addr} {it : Addr} {tn : Nat → Heap → Prop} (T : Turn P w K tg J fp it tn) (h : Weak J J') : Turn P w K tg J' fp it tn where
  mem := T.mem
  obj := T.obj
  keep := T.keep
  item := fun X hP hw hK hc i pins s σ H E I hf st hg => thn (T.item X hP hw hK hc i pins s σ H E I hf st (h.go i H hg)) fun r s1 ⟨u, hr, q⟩ => ⟨u, hr, thn q fun _ s2 ⟨x, H', a, b, c, d⟩ => ⟨x, H', a, b, h.yld i H x H' hg c, d⟩⟩
  done := fun X hP hw hK hc i pins s σ H E I hf st hg => T.done X hP hw hK hc i pins s σ H E I hf st (h.stop i H hg)
  self := T.self
noncomputable def ItEL (a : Addr) : It :=
  ⟨fun i H => ∃ xs x, H a = some (.lst xs) ∧ xs[i]? = some x, fun i H v H' => ∃ p x, v = .ref p ∧ H p = none ∧ H' = upd H p (.tup [.int i, x]) ∧ ∀ xs, H a = some (.lst xs) → xs[i]? = some x, fun i H => ∃ xs, H a = some (.lst xs) ∧ xs.length ≤ i⟩
noncomputable def iEnumL (ta : TA) : TI := fun σ H R => ta σ H fun vs H1 => ∃ a xs, vs = [.ref a] ∧ H1 a = some (.lst xs) ∧ R (ItEL a) H1
theorem weakEL (K : PySem.W.Frag) (a : Addr) : Weak (ItE K true a) (ItEL a) :=
  ⟨fun i H ⟨xs, x, h, e⟩ => ⟨xs, x, SqL.of h, e⟩, fun i H x H' _ ⟨p, y, e1, e2, e3, e4⟩ => ⟨p, y, e1, e2, e3, fun xs h => e4 xs (SqL.of h)⟩, fun i H ⟨xs, h, e⟩ => ⟨xs, SqL.of h, e⟩⟩
theorem pi_enumL {X : Cx} {elts : List Expr} {c : Nat} {tpos : Pos} {a : Expr} {ta : TA} {p pos : Pos} (hg : Gl X "enumerate") (hm : X.mg "enumerate" = none) (ha : PA X [a] ta) (hs : starEach [a] X.env = [(false, eval a X.env)] := by rfl) :
    PI X (.Tuple elts c tpos) (.Call (.Name "enumerate" p) [a] [] pos) (iEnumL ta) := by
  intro pins s σ H R I h
  refine Call_ (ld_blt I hg hm boot_enumerate (PyProof.Rows.callWith_type1 (thn (ha pos pins s σ H _ I h) fun us s1 ⟨vs, H1, I1, r1, q1⟩ => ?_) hs rfl))
  obtain ⟨a, xs, e, hq, q⟩ := q1
  subst e
  cases r1 with
  | cons r rr =>
    cases rr
    cases r
    obtain ⟨its1, rv1, p1, _⟩ := I1.seqB (b := true) (a := a) (xs := xs) (SqL.of hq)
    have la := p1.lt
    refine call_enumB p1 fun h' a1 a2 hk => wpAny_pyIter_enum a1 ?_
    refine ⟨_, _, _, _, H1, rfl, I1.kept (t' := s1.toks) hk, (turn_enumB (e := s1.heap.objs.size + 1) (it := s1.heap.objs.size) (Nat.succ_ne_self _) ?_ ?_).weak (weakEL _ _), ⟨⟨_, a1⟩, a2⟩, fun x hx => ?_, q⟩
    · exact Nat.ne_of_gt (Nat.lt_succ_of_lt la)
    · exact Nat.ne_of_lt la
    · have hx' : s1.heap.objs.size ≤ x := by
        simp only [List.mem_cons, List.not_mem_nil, or_false] at hx
        rcases hx with rfl | rfl <;> (show (_ : Nat) ≤ (_ : Nat)) <;> omega
      exact I1.fpOk hx' (I1.hok.fresh hx')
theorem yields_ELL {a : Addr} {xs : List V} : Yields (ItEL a) xs.length (fun i H v H' => ∃ p x, v = .ref p ∧ H p = none ∧ H' = upd H p (.tup [.int i, x]) ∧ xs[i]? = some x) (fun H => H a = some (.lst xs)) :=
  ⟨fun i H hi o => ⟨xs, xs[i], o, by simp [hi]⟩, fun i H v H' hi o ⟨p, x, e1, e2, e3, e4⟩ => ⟨p, x, e1, e2, e3, e4 xs o⟩, fun H o => ⟨xs, o, Nat.le_refl _⟩⟩
end L2
set_option Elab.async false
set_option linter.all false
set_option maxRecDepth 100000
set_option maxHeartbeats 4000000
namespace L2
open PySem PySem.Spec PyProof.Rows
end L2
set_option Elab.async false
set_option linter.all false
set_option maxRecDepth 100000
set_option maxHeartbeats 400000
namespace L2
open PySem PySem.Spec PyProof.Rows
end L2
set_option Elab.async false
set_option linter.all false
set_option maxRecDepth 100000
set_option maxHeartbeats 400000
namespace L2
open PySem PySem.Spec PyProof.Rows
end L2
namespace My
open PySem L2
end My
set_option Elab.async false
set_option linter.all false
set_option maxRecDepth 100000
set_option maxHeartbeats 1000000
namespace L2
open PySem PySem.Spec PyProof.Rows PySem.W
end L2
namespace L2
open PySem PySem.Spec PyProof.Rows Srt
end L2
set_option Elab.async false
set_option linter.all false
set_option maxRecDepth 100000
set_option maxHeartbeats 4000000
namespace L2
open PySem PySem.Spec PyProof.Rows
end L2
namespace L2
open PySem
end L2
set_option Elab.async false
set_option linter.all false
set_option maxRecDepth 100000
set_option maxHeartbeats 4000000
namespace L2
open PySem PySem.Spec PyProof.Rows
end L2
set_option Elab.async false
set_option linter.all false
set_option maxRecDepth 100000
set_option maxHeartbeats 4000000
namespace My
open PySem L2 MA
noncomputable def top (i : Nat) : Stmt := PySem.Challenge.pw_emptierbox_k24_whole_more_drawn_are_no_f.main.body.getD i (.Pass ⟨0, 0, 0, 0⟩)
noncomputable abbrev s_measure : Stmt := top 5
theorem sc_measure : FnScope ["a", "b"] ["a", "b"] (defScope s_measure) := ⟨rfl, rfl, rfl, by decide +kernel, rfl, by decide +kernel, by decide +kernel⟩
noncomputable abbrev s_plus : Stmt := top 6
theorem sc_plus : FnScope ["a", "b", "common", "top", "rest"] ["a", "b"] (defScope s_plus) := ⟨rfl, rfl, rfl, by decide +kernel, rfl, by decide +kernel, by decide +kernel⟩
noncomputable abbrev s_minus : Stmt := top 7
theorem sc_minus : FnScope ["a", "b"] ["a", "b"] (defScope s_minus) := ⟨rfl, rfl, rfl, by decide +kernel, rfl, by decide +kernel, by decide +kernel⟩
noncomputable abbrev s_times : Stmt := top 8
theorem sc_times : FnScope ["a", "b", "first", "second"] ["a", "b"] (defScope s_times) := ⟨rfl, rfl, rfl, by decide +kernel, rfl, by decide +kernel, by decide +kernel⟩
noncomputable abbrev s_parted : Stmt := top 9
theorem sc_parted : FnScope ["top", "bottoms", "bottom", "number", "common"] ["top", "bottoms"] (defScope s_parted) := ⟨rfl, rfl, rfl, by decide +kernel, rfl, by decide +kernel, by decide +kernel⟩
noncomputable abbrev s_weighed : Stmt := top 10
theorem sc_weighed : FnScope ["some", "bottom", "one"] ["some"] (defScope s_weighed) := ⟨rfl, rfl, rfl, by decide +kernel, rfl, by decide +kernel, by decide +kernel⟩
noncomputable abbrev s_ask_as_many : Stmt := top 12
theorem sc_ask_as_many : FnScope ["one", "other"] ["one", "other"] (defScope s_ask_as_many) := ⟨rfl, rfl, rfl, by decide +kernel, rfl, by decide +kernel, by decide +kernel⟩
noncomputable abbrev s_drawn : Stmt := top 13
theorem sc_drawn : FnScope ["n", "many"] ["n", "many"] (defScope s_drawn) := ⟨rfl, rfl, rfl, by decide +kernel, rfl, by decide +kernel, by decide +kernel⟩
noncomputable abbrev s_rows_up_to : Stmt := top 14
theorem sc_rows_up_to : FnScope ["rank", "many", "rows", "at"] ["rank", "many"] (defScope s_rows_up_to) := ⟨rfl, rfl, rfl, by decide +kernel, rfl, by decide +kernel, by decide +kernel⟩
noncomputable abbrev s_unlike : Stmt := top 15
theorem sc_unlike : FnScope ["n", "many"] ["n", "many"] (defScope s_unlike) := ⟨rfl, rfl, rfl, by decide +kernel, rfl, by decide +kernel, by decide +kernel⟩
noncomputable abbrev s_sets : Stmt := top 16
theorem sc_sets : FnScope ["things", "many", "found", "at"] ["things", "many"] (defScope s_sets) := ⟨rfl, rfl, rfl, by decide +kernel, rfl, by decide +kernel, by decide +kernel⟩
noncomputable abbrev s_mixed : Stmt := top 17
theorem sc_mixed : FnScope ["share", "one", "other", "rest"] ["share", "one", "other"] (defScope s_mixed) := ⟨rfl, rfl, rfl, by decide +kernel, rfl, by decide +kernel, by decide +kernel⟩
noncomputable abbrev s_fuller_at : Stmt := top 19
theorem sc_fuller_at : FnScope ["one", "other", "more", "k", "a", "b"] ["one", "other"] (defScope s_fuller_at) := ⟨rfl, rfl, rfl, by decide +kernel, rfl, by decide +kernel, by decide +kernel⟩
noncomputable abbrev s_parting : Stmt := top 20
theorem sc_parting : FnScope ["one", "other", "k"] ["one", "other"] (defScope s_parting) := ⟨rfl, rfl, rfl, by decide +kernel, rfl, by decide +kernel, by decide +kernel⟩
noncomputable abbrev s_mean_of : Stmt := top 22
theorem sc_mean_of : FnScope ["spread", "numbers", "tops", "bottom"] ["spread", "numbers"] (defScope s_mean_of) := ⟨rfl, rfl, rfl, by decide +kernel, rfl, by decide +kernel, by decide +kernel⟩
noncomputable abbrev s_first_mean : Stmt := top 23
theorem sc_first_mean : FnScope ["spread", "k"] ["spread", "k"] (defScope s_first_mean) := ⟨rfl, rfl, rfl, by decide +kernel, rfl, by decide +kernel, by decide +kernel⟩
noncomputable abbrev s_falling : Stmt := top 25
theorem sc_falling : FnScope ["numbers"] ["numbers"] (defScope s_falling) := ⟨rfl, rfl, rfl, by decide +kernel, rfl, by decide +kernel, by decide +kernel⟩
noncomputable abbrev s_put_at : Stmt := top 26
theorem sc_put_at : FnScope ["load", "rank", "numbers"] ["load", "rank"] (defScope s_put_at) := ⟨rfl, rfl, rfl, by decide +kernel, rfl, by decide +kernel, by decide +kernel⟩
noncomputable abbrev s_alone : Stmt := top 29
theorem sc_alone : FnScope ["load"] ["load"] (defScope s_alone) := ⟨rfl, rfl, rfl, by decide +kernel, rfl, by decide +kernel, by decide +kernel⟩
noncomputable abbrev s_gathered : Stmt := top 30
theorem sc_gathered : FnScope ["rows", "found", "thing", "weight"] ["rows"] (defScope s_gathered) := ⟨rfl, rfl, rfl, by decide +kernel, rfl, by decide +kernel, by decide +kernel⟩
noncomputable abbrev s_weights_of : Stmt := top 31
theorem sc_weights_of : FnScope ["spread", "tops", "bottom"] ["spread"] (defScope s_weights_of) := ⟨rfl, rfl, rfl, by decide +kernel, rfl, by decide +kernel, by decide +kernel⟩
noncomputable abbrev s_spread_of : Stmt := top 32
theorem sc_spread_of : FnScope ["weights", "bottoms"] ["weights", "bottoms"] (defScope s_spread_of) := ⟨rfl, rfl, rfl, by decide +kernel, rfl, by decide +kernel, by decide +kernel⟩
noncomputable abbrev s_come : Stmt := top 33
theorem sc_come : FnScope ["chances", "weights"] ["chances", "weights"] (defScope s_come) := ⟨rfl, rfl, rfl, by decide +kernel, rfl, by decide +kernel, by decide +kernel⟩
noncomputable abbrev s_ask_boxes : Stmt := top 34
theorem sc_ask_boxes : FnScope ["ranks", "load"] ["ranks", "load"] (defScope s_ask_boxes) := ⟨rfl, rfl, rfl, by decide +kernel, rfl, by decide +kernel, by decide +kernel⟩
noncomputable abbrev s_after : Stmt := top 35
theorem sc_after : FnScope ["rule", "spread", "many", "ball", "chances", "ball_bottom", "weights", "bottom"] ["rule", "spread", "many"] (defScope s_after) := ⟨rfl, rfl, rfl, by decide +kernel, rfl, by decide +kernel, by decide +kernel⟩
noncomputable abbrev s_put : Stmt := top 36
theorem sc_put : FnScope ["rule", "spread"] ["rule", "spread"] (defScope s_put) := ⟨rfl, rfl, rfl, by decide +kernel, rfl, by decide +kernel, by decide +kernel⟩
noncomputable abbrev s_l_pen : Stmt := top 38
theorem sc_l_pen : FnScope ["_law_script"] ["_law_script"] (defScope s_l_pen) := ⟨rfl, rfl, rfl, by decide +kernel, rfl, by decide +kernel, by decide +kernel⟩
noncomputable abbrev s_l_take : Stmt := top 39
theorem sc_l_take : FnScope ["_law_pen_here", "_law_many", "_law_turns", "_law_cell", "_law_prime", "_law_mixed_cell", "_law_digit"] ["_law_pen_here", "_law_many"] (defScope s_l_take) := ⟨rfl, rfl, rfl, by decide +kernel, rfl, by decide +kernel, by decide +kernel⟩
noncomputable abbrev s_l_share : Stmt := top 40
theorem sc_l_share : FnScope ["_law_top", "_law_bottom", "_law_one", "_law_rest"] ["_law_top", "_law_bottom"] (defScope s_l_share) := ⟨rfl, rfl, rfl, by decide +kernel, rfl, by decide +kernel, by decide +kernel⟩
noncomputable abbrev s_l_weights : Stmt := top 42
theorem sc_l_weights : FnScope ["_law_pen_here", "_law_boxes", "_law_most", "_law_spot", "_law_found"] ["_law_pen_here", "_law_boxes"] (defScope s_l_weights) := ⟨rfl, rfl, rfl, by decide +kernel, rfl, by decide +kernel, by decide +kernel⟩
noncomputable abbrev s_l_rule : Stmt := top 43
theorem sc_l_rule : FnScope ["_law_weights_here"] ["_law_weights_here"] (defScope s_l_rule) := ⟨rfl, rfl, rfl, by decide +kernel, rfl, by decide +kernel, by decide +kernel⟩
noncomputable abbrev s_l_behind : Stmt := top 44
theorem sc_l_behind : FnScope ["_law_pen_here", "_law_weights_here", "_law_found", "_law_turns", "_law_at", "_law_to", "_law_much"] ["_law_pen_here", "_law_weights_here"] (defScope s_l_behind) := ⟨rfl, rfl, rfl, by decide +kernel, rfl, by decide +kernel, by decide +kernel⟩
noncomputable abbrev s_l_is_more : Stmt := top 45
theorem sc_l_is_more : FnScope ["_law_a", "_law_b"] ["_law_a", "_law_b"] (defScope s_l_is_more) := ⟨rfl, rfl, rfl, by decide +kernel, rfl, by decide +kernel, by decide +kernel⟩
noncomputable abbrev s_l_drawn_right : Stmt := top 46
theorem sc_l_drawn_right : FnScope ["_law_boxes", "_law_many", "_law_k"] ["_law_boxes", "_law_many"] (defScope s_l_drawn_right) := ⟨rfl, rfl, rfl, by decide +kernel, rfl, by decide +kernel, by decide +kernel⟩
noncomputable abbrev s_l_mixed_right : Stmt := top 47
theorem sc_l_mixed_right : FnScope ["_law_pen_here", "_law_one", "_law_other", "_law_spot", "_law_far", "_law_less", "_law_more", "_law_pair"] ["_law_pen_here", "_law_one", "_law_other"] (defScope s_l_mixed_right) := ⟨rfl, rfl, rfl, by decide +kernel, rfl, by decide +kernel, by decide +kernel⟩
noncomputable abbrev s_l_parts_right : Stmt := top 48
theorem sc_l_parts_right : FnScope ["_law_one", "_law_other", "_law_told", "_law_here", "_law_there"] ["_law_one", "_law_other"] (defScope s_l_parts_right) := ⟨rfl, rfl, rfl, by decide +kernel, rfl, by decide +kernel, by decide +kernel⟩
noncomputable abbrev s_l_load : Stmt := top 49
theorem sc_l_load : FnScope ["_law_pen_here", "_law_boxes", "_law_numbers"] ["_law_pen_here", "_law_boxes"] (defScope s_l_load) := ⟨rfl, rfl, rfl, by decide +kernel, rfl, by decide +kernel, by decide +kernel⟩
noncomputable abbrev s_l_means_right : Stmt := top 50
theorem sc_l_means_right : FnScope ["_law_pen_here", "_law_one", "_law_other", "_law_load_here", "_law_here", "_law_there", "_law_k"] ["_law_pen_here", "_law_one", "_law_other"] (defScope s_l_means_right) := ⟨rfl, rfl, rfl, by decide +kernel, rfl, by decide +kernel, by decide +kernel⟩
noncomputable abbrev s_law : Stmt := top 51
theorem sc_law : FnScope ["_law_script", "_law_pen_here", "_law_turns", "_law_boxes", "_law_weights_here", "_law_other", "_law_one", "_law_small", "_law_first", "_law_second"] ["_law_script"] (defScope s_law) := ⟨rfl, rfl, rfl, by decide +kernel, rfl, by decide +kernel, by decide +kernel⟩
section
variable {P : Program} {w : World} {K : PySem.W.Frag} {mg : Str → Option Value} {base : Heap}
theorem ok_measure (T : Txt mg) (F : FunAt K mg "measure" ["a", "b"] s_measure) : Cal P w K mg base "measure" ["a", "b"] 1 spMeasure := by
  have S := sc_measure
  refine F.cal sc_measure (fun vs H Q E h => ?_) (fun f cdv A outer s H vs Q E hr h => ?_)
  · obtain ⟨a, b, rfl, _⟩ := h; rfl
  obtain ⟨a, b, rfl, q⟩ := h
  refine ⟨_, (@pss_cons _ _ _ _ _ (@ps_par _ _ (0) (1) _ _ _ _ _ _ _ _ _ _ _ (by rfl) (by exact S.nd) (by rfl) (by rfl) (by decide) (by rfl) (by rfl) (@pa_consN _ _ _ _ _ (@pe_callB _ _ _ _ _ _ _ _ _ call_abs (by rfl) (by exact T.z_abs) (by exact bt_abs) (@pa_consN _ _ _ _ _ (pv 0) pa_nil (by first|rfl|decide|exact .inl rfl|exact .inr rfl|(intros; rfl))) (by first|rfl|decide|exact .inl rfl|exact .inr rfl|(intros; rfl)) (by first|rfl|decide|exact .inl rfl|exact .inr rfl|(intros; rfl)) (by first|rfl|decide|exact .inl rfl|exact .inr rfl|(intros; rfl)) (by first|rfl|decide|exact .inl rfl|exact .inr rfl|(intros; rfl))) (@pa_consN _ _ _ _ _ (@pe_callB _ _ _ _ _ _ _ _ _ call_abs (by rfl) (by exact T.z_abs) (by exact bt_abs) (@pa_consN _ _ _ _ _ (pv 1) pa_nil (by first|rfl|decide|exact .inl rfl|exact .inr rfl|(intros; rfl))) (by first|rfl|decide|exact .inl rfl|exact .inr rfl|(intros; rfl)) (by first|rfl|decide|exact .inl rfl|exact .inr rfl|(intros; rfl)) (by first|rfl|decide|exact .inl rfl|exact .inr rfl|(intros; rfl)) (by first|rfl|decide|exact .inl rfl|exact .inr rfl|(intros; rfl))) pa_nil (by first|rfl|decide|exact .inl rfl|exact .inr rfl|(intros; rfl))) (by first|rfl|decide|exact .inl rfl|exact .inr rfl|(intros; rfl))) (by rfl) (by first|rfl|decide|exact .inl rfl|exact .inr rfl|(intros; rfl))) (@pss_cons _ _ _ _ _ (@ps_while _ _ _ _ _ _ (by exact PassesOwn.never) (@pt_cmpR _ _ _ _ _ _ _ _ op_ne (pv 1) pe_int (by exact (nomark _))) (@pss_one _ _ _ (@ps_par _ _ (0) (1) _ _ _ _ _ _ _ _ _ _ _ (by rfl) (by exact S.nd) (by rfl) (by rfl) (by decide) (by rfl) (by rfl) (@pa_consN _ _ _ _ _ (pv 1) (@pa_consN _ _ _ _ _ (@pe_op _ _ _ _ _ _ _ _ op_mod (pv 0) (pv 1)) pa_nil (by first|rfl|decide|exact .inl rfl|exact .inr rfl|(intros; rfl))) (by first|rfl|decide|exact .inl rfl|exact .inr rfl|(intros; rfl))) (by rfl) (by first|rfl|decide|exact .inl rfl|exact .inr rfl|(intros; rfl))))) (@pss_one _ _ _ (@ps_ret _ _ _ _ (pv 0))))), ?_⟩
  refine ⟨_, rfl, _, rfl, _, rfl, _, rfl, _, _, rfl, ?_⟩
  refine while_by (fun σ H' => H' = H ∧ ∃ x y : Int, σ = [some (.int x), some (.int y)] ∧ 0 ≤ x ∧ 0 ≤ y ∧ gI x y = gI a b) (fun σ _ => match σ with | [_, some (.int y)] => y.toNat | _ => 0) ⟨rfl, _, _, rfl, ?_, ?_, ?_⟩ ?_ ?_
  · split <;> omega
  · split <;> omega
  · exact gI_abs a b
  · rintro σ H' ⟨rfl, x, y, rfl, hx, hy, hg⟩
    refine ⟨_, rfl, rfl, _, rfl, ?_⟩
    refine ite2 (fun c => ?_) (fun c => ?_)
    · have hy0 : 0 < y := by
        have : ¬ (V.int y = V.int 0) := by simpa using c
        have : y ≠ 0 := fun e => this (by rw [e])
        omega
      refine ⟨_, rfl, _, rfl, _, rfl, _, _, rfl, rfl, hy0, _, _, rfl, ?_⟩
      have hm := Int.emod_nonneg x (show y ≠ 0 by omega)
      have hl := Int.emod_lt_of_pos x hy0
      refine ⟨⟨rfl, _, _, rfl, hy, hm, ?_⟩, ?_⟩
      · rw [gI_step hx]; exact hg
      · show (x % y).toNat < y.toNat
        omega
    · have hy0 : y = 0 := by
        have : V.int y = V.int 0 := by simpa using c
        exact V.int.inj this
      subst hy0
      refine ⟨_, rfl, ?_⟩
      rw [gI_zero hx] at hg
      rw [hg]
      exact q
  · rintro σ H' Q1 Q2 hQ ⟨v, e, h1, b1, e2, h2⟩
    exact ⟨v, e, h1, b1, e2, hQ _ _ h2⟩
theorem ok_plus (C_measure : Cal P w K mg base "measure" ["a", "b"] 1 spMeasure) (F : FunAt K mg "plus" ["a", "b"] s_plus) : Cal P w K mg base "plus" ["a", "b"] 2 spPlus := by
  have S := sc_plus
  refine F.cal sc_plus (fun vs H Q E h => ?_) (fun f cdv A outer s H vs Q E hr h => ?_)
  · obtain ⟨a, b, _, _, rfl, _⟩ := h; rfl
  obtain ⟨_, _, q, r, rfl, ⟨pa, rfl, ha⟩, ⟨pb, rfl, hb⟩, ⟨b1, b2⟩, ⟨b3, b4⟩, _, k⟩ := h
  refine ⟨_, (@pss_cons _ _ _ _ _ (@ps_set _ _ (2) _ _ _ _ (by exact S.nd) (by rfl) (by first | exact Or.inl rfl | exact Or.inr rfl) (@cc _ _ _ _ _ _ _ _ _ _ (by exact C_measure) (by exact (hr.mono (by decide))) (@pa_consN _ _ _ _ _ (@pe_ix _ _ _ _ _ _ _ ix_tup (pv 0) pe_int (by exact (fun _ _ => rfl))) (@pa_consN _ _ _ _ _ (@pe_ix _ _ _ _ _ _ _ ix_tup (pv 1) pe_int (by exact (fun _ _ => rfl))) pa_nil (by first|rfl|decide|exact .inl rfl|exact .inr rfl|(intros; rfl))) (by first|rfl|decide|exact .inl rfl|exact .inr rfl|(intros; rfl))) (by first|rfl|decide|exact .inl rfl|exact .inr rfl|(intros; rfl)) (by first|rfl|decide|exact .inl rfl|exact .inr rfl|(intros; rfl)) (by first|rfl|decide|exact .inl rfl|exact .inr rfl|(intros; rfl)) (by first|rfl|decide|exact .inl rfl|exact .inr rfl|(intros; rfl))) (by first|rfl|decide|exact .inl rfl|exact .inr rfl|(intros; rfl)) (by first|rfl|decide|exact .inl rfl|exact .inr rfl|(intros; rfl))) (@pss_cons _ _ _ _ _ (@ps_set _ _ (3) _ _ _ _ (by exact S.nd) (by rfl) (by first | exact Or.inl rfl | exact Or.inr rfl) (@pe_op _ _ _ _ _ _ _ _ op_add (@pe_op _ _ _ _ _ _ _ _ op_mulB (@pe_ix _ _ _ _ _ _ _ ix_tup (pv 0) pe_int (by exact (fun _ _ => rfl))) (@pe_op _ _ _ _ _ _ _ _ op_fdivB (@pe_ix _ _ _ _ _ _ _ ix_tup (pv 1) pe_int (by exact (fun _ _ => rfl))) (pv 2))) (@pe_op _ _ _ _ _ _ _ _ op_mulB (@pe_ix _ _ _ _ _ _ _ ix_tup (pv 1) pe_int (by exact (fun _ _ => rfl))) (@pe_op _ _ _ _ _ _ _ _ op_fdivB (@pe_ix _ _ _ _ _ _ _ ix_tup (pv 0) pe_int (by exact (fun _ _ => rfl))) (pv 2)))) (by first|rfl|decide|exact .inl rfl|exact .inr rfl|(intros; rfl)) (by first|rfl|decide|exact .inl rfl|exact .inr rfl|(intros; rfl))) (@pss_cons _ _ _ _ _ (@ps_set _ _ (4) _ _ _ _ (by exact S.nd) (by rfl) (by first | exact Or.inl rfl | exact Or.inr rfl) (@cc _ _ _ _ _ _ _ _ _ _ (by exact C_measure) (by exact (hr.mono (by decide))) (@pa_consN _ _ _ _ _ (pv 3) (@pa_consN _ _ _ _ _ (pv 2) pa_nil (by first|rfl|decide|exact .inl rfl|exact .inr rfl|(intros; rfl))) (by first|rfl|decide|exact .inl rfl|exact .inr rfl|(intros; rfl))) (by first|rfl|decide|exact .inl rfl|exact .inr rfl|(intros; rfl)) (by first|rfl|decide|exact .inl rfl|exact .inr rfl|(intros; rfl)) (by first|rfl|decide|exact .inl rfl|exact .inr rfl|(intros; rfl)) (by first|rfl|decide|exact .inl rfl|exact .inr rfl|(intros; rfl))) (by first|rfl|decide|exact .inl rfl|exact .inr rfl|(intros; rfl)) (by first|rfl|decide|exact .inl rfl|exact .inr rfl|(intros; rfl))) (@pss_one _ _ _ (@ps_ret _ _ _ _ (@pe_tup _ _ _ _ _ (@pa_consN _ _ _ _ _ (@pe_op _ _ _ _ _ _ _ _ op_fdivB (pv 3) (pv 4)) (@pa_consN _ _ _ _ _ (@pe_op _ _ _ _ _ _ _ _ op_mulB (@pe_op _ _ _ _ _ _ _ _ op_fdivB (@pe_ix _ _ _ _ _ _ _ ix_tup (pv 0) pe_int (by exact (fun _ _ => rfl))) (pv 2)) (@pe_op _ _ _ _ _ _ _ _ op_fdivB (@pe_ix _ _ _ _ _ _ _ ix_tup (pv 1) pe_int (by exact (fun _ _ => rfl))) (pv 4))) pa_nil (by first|rfl|decide|exact .inl rfl|exact .inr rfl|(intros; rfl))) (by first|rfl|decide|exact .inl rfl|exact .inr rfl|(intros; rfl))))))))), ?_⟩
  have c0 : 0 < gI q.den r.den := gI_pos_left (den_ne q)
  have cb : Bt 3000 (gI q.den r.den) := b2.gl (den_ne q)
  refine ⟨_, rfl, pa, _, _, _, rfl, rfl, SqT.of ha, rfl, _, rfl, pb, _, _, _, rfl, rfl, SqT.of hb, rfl, _, _, rfl, ?_⟩
  refine ⟨_, rfl, pa, _, _, _, rfl, rfl, SqT.of ha, rfl, _, rfl, pb, _, _, _, rfl, rfl, SqT.of hb, rfl, _, rfl, _, _, rfl, rfl, ⟨c0, cb.mono (by decide)⟩, _, _, rfl, rfl, ⟨b1.mono (by decide), (b4.ediv c0).mono (by decide)⟩,
    _, rfl, pb, _, _, _, rfl, rfl, SqT.of hb, rfl, _, rfl, pa, _, _, _, rfl, rfl, SqT.of ha, rfl, _, rfl, _, _, rfl, rfl, ⟨c0, cb.mono (by decide)⟩, _, _, rfl, rfl, ⟨b3.mono (by decide), (b2.ediv c0).mono (by decide)⟩, _, _, rfl, rfl, ?_⟩
  refine ⟨_, rfl, _, rfl, _, _, rfl, ?_⟩
  have r0 : 0 < gI (q.num * ((r.den : Int) / gI q.den r.den) + r.num * ((q.den : Int) / gI q.den r.den)) (gI q.den r.den) := gI_pos_right (by omega)
  have rb : Bt 8000 (gI (q.num * ((r.den : Int) / gI q.den r.den) + r.num * ((q.den : Int) / gI q.den r.den)) (gI q.den r.den)) := (cb.gr (by omega)).mono (by decide)
  refine ⟨_, rfl, _, rfl, _, _, rfl, rfl, ⟨r0, rb⟩, _, rfl, pa, _, _, _, rfl, rfl, SqT.of ha, rfl, _, rfl, _, _, rfl, rfl, ⟨c0, cb.mono (by decide)⟩,
    _, rfl, pb, _, _, _, rfl, rfl, SqT.of hb, rfl, _, rfl, _, _, rfl, rfl, ⟨r0, rb⟩, _, _, rfl, rfl, ⟨(b2.ediv c0).mono (by decide), (b4.ediv r0).mono (by decide)⟩, (by show 2 ≤ sizeLine; decide), fun p hp => ?_⟩
  have e := plus_ok q r _ _ _ rfl rfl rfl
  exact k _ _ (same_new hp _) ⟨p, rfl, by rw [upd_same]; dsimp only; rw [e.1, e.2]⟩
theorem ok_minus (C_plus : Cal P w K mg base "plus" ["a", "b"] 2 spPlus) (F : FunAt K mg "minus" ["a", "b"] s_minus) : Cal P w K mg base "minus" ["a", "b"] 3 spMinus := by
  have S := sc_minus
  refine F.cal sc_minus (fun vs H Q E h => ?_) (fun f cdv A outer s H vs Q E hr h => ?_)
  · obtain ⟨a, b, _, _, rfl, _⟩ := h; rfl
  obtain ⟨_, _, q, r, rfl, ⟨pa, rfl, ha⟩, ⟨pb, rfl, hb⟩, bq, br, _, k⟩ := h
  refine ⟨_, (@pss_one _ _ _ (@ps_ret _ _ _ _ (@cc _ _ _ _ _ _ _ _ _ _ (by exact C_plus) (by exact (hr.mono (by decide))) (@pa_consN _ _ _ _ _ (pv 0) (@pa_consN _ _ _ _ _ (@pe_tup _ _ _ _ _ (@pa_consN _ _ _ _ _ (@pe_un _ _ _ _ _ _ un_neg (@pe_ix _ _ _ _ _ _ _ ix_tup (pv 1) pe_int (by exact (fun _ _ => rfl)))) (@pa_consN _ _ _ _ _ (@pe_ix _ _ _ _ _ _ _ ix_tup (pv 1) pe_int (by exact (fun _ _ => rfl))) pa_nil (by first|rfl|decide|exact .inl rfl|exact .inr rfl|(intros; rfl))) (by first|rfl|decide|exact .inl rfl|exact .inr rfl|(intros; rfl)))) pa_nil (by first|rfl|decide|exact .inl rfl|exact .inr rfl|(intros; rfl))) (by first|rfl|decide|exact .inl rfl|exact .inr rfl|(intros; rfl))) (by first|rfl|decide|exact .inl rfl|exact .inr rfl|(intros; rfl)) (by first|rfl|decide|exact .inl rfl|exact .inr rfl|(intros; rfl)) (by first|rfl|decide|exact .inl rfl|exact .inr rfl|(intros; rfl)) (by first|rfl|decide|exact .inl rfl|exact .inr rfl|(intros; rfl))))), ?_⟩
  refine ⟨_, rfl, _, rfl, pb, _, _, _, rfl, rfl, SqT.of hb, rfl, _, rfl, _, rfl, pb, _, _, _, rfl, rfl, SqT.of hb, rfl, (by show 2 ≤ sizeLine; decide), fun p hp => ?_⟩
  refine ⟨_, _, q, -r, rfl, ⟨pa, rfl, same_new hp _ _ _ ha⟩, ⟨p, rfl, upd_same⟩, bq, br.neg, trivial, fun v H' hs hv => ?_⟩
  have hv : ShAt H' v (q + -r) := hv
  rw [← Rat.sub_eq_add_neg] at hv
  exact k _ _ ((same_new hp _).trans hs) hv
theorem ok_times (C_measure : Cal P w K mg base "measure" ["a", "b"] 1 spMeasure) (F : FunAt K mg "times" ["a", "b"] s_times) : Cal P w K mg base "times" ["a", "b"] 3 spTimes := by
  have S := sc_times
  refine (F.cal (k := 1) sc_times (fun vs H Q E h => ?_) (fun f cdv A outer s H vs Q E hr h => ?_)).mono (by decide)
  · obtain ⟨a, b, _, _, rfl, _⟩ := h; rfl
  obtain ⟨_, _, q, r, rfl, ⟨pa, rfl, ha⟩, ⟨pb, rfl, hb⟩, ⟨b1, b2⟩, ⟨b3, b4⟩, _, k⟩ := h
  refine ⟨_, (@pss_cons _ _ _ _ _ (@ps_par _ _ (2) (3) _ _ _ _ _ _ _ _ _ _ _ (by rfl) (by exact S.nd) (by rfl) (by rfl) (by decide) (by rfl) (by rfl) (@pa_consN _ _ _ _ _ (@cc _ _ _ _ _ _ _ _ _ _ (by exact C_measure) (by exact (hr.mono (by decide))) (@pa_consN _ _ _ _ _ (@pe_ix _ _ _ _ _ _ _ ix_tup (pv 0) pe_int (by exact (fun _ _ => rfl))) (@pa_consN _ _ _ _ _ (@pe_ix _ _ _ _ _ _ _ ix_tup (pv 1) pe_int (by exact (fun _ _ => rfl))) pa_nil (by first|rfl|decide|exact .inl rfl|exact .inr rfl|(intros; rfl))) (by first|rfl|decide|exact .inl rfl|exact .inr rfl|(intros; rfl))) (by first|rfl|decide|exact .inl rfl|exact .inr rfl|(intros; rfl)) (by first|rfl|decide|exact .inl rfl|exact .inr rfl|(intros; rfl)) (by first|rfl|decide|exact .inl rfl|exact .inr rfl|(intros; rfl)) (by first|rfl|decide|exact .inl rfl|exact .inr rfl|(intros; rfl))) (@pa_consN _ _ _ _ _ (@cc _ _ _ _ _ _ _ _ _ _ (by exact C_measure) (by exact (hr.mono (by decide))) (@pa_consN _ _ _ _ _ (@pe_ix _ _ _ _ _ _ _ ix_tup (pv 1) pe_int (by exact (fun _ _ => rfl))) (@pa_consN _ _ _ _ _ (@pe_ix _ _ _ _ _ _ _ ix_tup (pv 0) pe_int (by exact (fun _ _ => rfl))) pa_nil (by first|rfl|decide|exact .inl rfl|exact .inr rfl|(intros; rfl))) (by first|rfl|decide|exact .inl rfl|exact .inr rfl|(intros; rfl))) (by first|rfl|decide|exact .inl rfl|exact .inr rfl|(intros; rfl)) (by first|rfl|decide|exact .inl rfl|exact .inr rfl|(intros; rfl)) (by first|rfl|decide|exact .inl rfl|exact .inr rfl|(intros; rfl)) (by first|rfl|decide|exact .inl rfl|exact .inr rfl|(intros; rfl))) pa_nil (by first|rfl|decide|exact .inl rfl|exact .inr rfl|(intros; rfl))) (by first|rfl|decide|exact .inl rfl|exact .inr rfl|(intros; rfl))) (by rfl) (by first|rfl|decide|exact .inl rfl|exact .inr rfl|(intros; rfl))) (@pss_one _ _ _ (@ps_ret _ _ _ _ (@pe_tup _ _ _ _ _ (@pa_consN _ _ _ _ _ (@pe_op _ _ _ _ _ _ _ _ op_mulB (@pe_op _ _ _ _ _ _ _ _ op_fdivB (@pe_ix _ _ _ _ _ _ _ ix_tup (pv 0) pe_int (by exact (fun _ _ => rfl))) (pv 2)) (@pe_op _ _ _ _ _ _ _ _ op_fdivB (@pe_ix _ _ _ _ _ _ _ ix_tup (pv 1) pe_int (by exact (fun _ _ => rfl))) (pv 3))) (@pa_consN _ _ _ _ _ (@pe_op _ _ _ _ _ _ _ _ op_mulB (@pe_op _ _ _ _ _ _ _ _ op_fdivB (@pe_ix _ _ _ _ _ _ _ ix_tup (pv 0) pe_int (by exact (fun _ _ => rfl))) (pv 3)) (@pe_op _ _ _ _ _ _ _ _ op_fdivB (@pe_ix _ _ _ _ _ _ _ ix_tup (pv 1) pe_int (by exact (fun _ _ => rfl))) (pv 2))) pa_nil (by first|rfl|decide|exact .inl rfl|exact .inr rfl|(intros; rfl))) (by first|rfl|decide|exact .inl rfl|exact .inr rfl|(intros; rfl))))))), ?_⟩
  have f0 : 0 < gI q.num r.den := gI_pos_right (den_ne r)
  have s0 : 0 < gI r.num q.den := gI_pos_right (den_ne q)
  have fb : Bt 8000 (gI q.num r.den) := (b4.gr (den_ne r)).mono (by decide)
  have sb : Bt 8000 (gI r.num q.den) := (b2.gr (den_ne q)).mono (by decide)
  refine ⟨_, rfl, pa, _, _, _, rfl, rfl, SqT.of ha, rfl, _, rfl, pb, _, _, _, rfl, rfl, SqT.of hb, rfl, _, _, rfl, _, rfl, pb, _, _, _, rfl, rfl, SqT.of hb, rfl, _, rfl, pa, _, _, _, rfl, rfl, SqT.of ha, rfl, _, _, rfl, _, _, rfl, ?_⟩
  refine ⟨_, rfl, pa, _, _, _, rfl, rfl, SqT.of ha, rfl, _, rfl, _, _, rfl, rfl, ⟨f0, fb⟩, _, rfl, pb, _, _, _, rfl, rfl, SqT.of hb, rfl, _, rfl, _, _, rfl, rfl, ⟨s0, sb⟩, _, _, rfl, rfl, ⟨(b1.ediv f0).mono (by decide), (b3.ediv s0).mono (by decide)⟩,
    _, rfl, pa, _, _, _, rfl, rfl, SqT.of ha, rfl, _, rfl, _, _, rfl, rfl, ⟨s0, sb⟩, _, rfl, pb, _, _, _, rfl, rfl, SqT.of hb, rfl, _, rfl, _, _, rfl, rfl, ⟨f0, fb⟩, _, _, rfl, rfl, ⟨(b2.ediv s0).mono (by decide), (b4.ediv f0).mono (by decide)⟩, (by show 2 ≤ sizeLine; decide), fun p hp => ?_⟩
  have e := timesX_ok q r
  exact k _ _ (same_new hp _) ⟨p, rfl, by rw [upd_same]; dsimp only; rw [e.1, e.2]⟩
theorem joinI1 {C R : Int → Hp → Prop} {G : Prop} (main : (∀ a h, C a h → R a h) → G) (key : ∀ a h, C a h → R a h) : G := main key
noncomputable def partedF (t : Int) (bs : List Int) : Int × Int := bs.foldl (fun s x => (s.1 / gI s.1 x, s.2 * (x / gI s.1 x))) (t, 1)
noncomputable def setsF (t : Int) (k : Nat) : Int := (List.range k).foldl (fun (f : Int) (j : Nat) => f * (t - (j : Int)) / ((j : Int) + 1)) 1
noncomputable def spRowsUp : Sp := fun vs H Q _ => ∃ r k : Int, vs = [.int r, .int k] ∧ 0 ≤ r ∧ r ≤ 100 ∧ 0 ≤ k ∧ k ≤ 100 ∧ Q (.int (r ^ k.toNat)) H
theorem ok_rowsup (T : Txt mg) (F : FunAt K mg "rows_up_to" ["rank", "many"] s_rows_up_to) : Cal P w K mg base "rows_up_to" ["rank", "many"] 1 spRowsUp := by
  have S := sc_rows_up_to
  refine F.cal sc_rows_up_to (fun vs H Q E h => ?_) (fun f cdv A outer s H vs Q E hr h => ?_)
  · obtain ⟨r, k, rfl, _⟩ := h; rfl
  obtain ⟨r, k, rfl, r0, r1, k0, k1, q⟩ := h
  refine ⟨_, (@pss_cons _ _ _ _ _ (@ps_set _ _ (2) _ _ _ _ (by exact S.nd) (by rfl) (by first | exact Or.inl rfl | exact Or.inr rfl) pe_int (by first|rfl|decide|exact .inl rfl|exact .inr rfl|(intros; rfl)) (by first|rfl|decide|exact .inl rfl|exact .inr rfl|(intros; rfl))) (@pss_cons _ _ _ _ _ (@ps_for _ _ _ _ _ _ _ _ (by exact PassesOwn.never) (by rfl) (@pi_range1 _ _ _ _ _ _ (by rfl) (by exact T.z_range) (@pa_consN _ _ _ _ _ (pv 1) pa_nil (by first|rfl|decide|exact .inl rfl|exact .inr rfl|(intros; rfl))) (by first|rfl|decide|exact .inl rfl|exact .inr rfl|(intros; rfl))) (@pg_name _ _ (3) _ (by exact S.nd) (by rfl) (by first | exact Or.inl rfl | exact Or.inr rfl) (by first|rfl|decide|exact .inl rfl|exact .inr rfl|(intros; rfl))) (@pss_one _ _ _ (@ps_aug _ _ (2) _ _ _ _ _ _ (by exact S.nd) (by rfl) (by first | exact Or.inl rfl | exact Or.inr rfl) (pv 0) ip_mul (by first|rfl|decide|exact .inl rfl|exact .inr rfl|(intros; rfl)))) (by first|rfl|decide|exact .inl rfl|exact .inr rfl|(intros; rfl))) (@pss_one _ _ _ (@ps_ret _ _ _ _ (pv 2))))), ?_⟩
  refine ⟨_, rfl, k, rfl, by omega, by omega, for_range (n := k.toNat) (fun i σ H' => H' = H ∧ ∃ o, σ = [some (.int r), some (.int k), some (.int (r ^ i)), o]) ⟨rfl, none, by rw [Int.pow_zero]; rfl⟩ ?_ ?_⟩
  · rintro i σ H' hi ⟨rfl, o, rfl⟩
    refine ⟨_, rfl, _, rfl, _, _, rfl, rfl, .inr ⟨by omega, by omega⟩, rfl, some (.int (0 + i)), ?_⟩
    rw [Int.pow_succ]
    rfl
  · rintro σ H' ⟨rfl, o, rfl⟩
    exact ⟨_, rfl, q⟩
noncomputable def spSets : Sp := fun vs H Q _ => ∃ t k : Int, vs = [.int t, .int k] ∧ 0 ≤ t ∧ t ≤ 100 ∧ 0 ≤ k ∧ k ≤ 100 ∧ Q (.int (setsF t k.toNat)) H
theorem setsF_succ (t : Int) (i : Nat) : setsF t (i + 1) = setsF t i * (t - (i : Int)) / ((i : Int) + 1) := by
  unfold setsF
  rw [List.range_succ, List.foldl_append]
  rfl
theorem ok_sets (T : Txt mg) (F : FunAt K mg "sets" ["things", "many"] s_sets) : Cal P w K mg base "sets" ["things", "many"] 1 spSets := by
  have S := sc_sets
  refine F.cal sc_sets (fun vs H Q E h => ?_) (fun f cdv A outer s H vs Q E hr h => ?_)
  · obtain ⟨r, k, rfl, _⟩ := h; rfl
  obtain ⟨t, k, rfl, r0, r1, k0, k1, q⟩ := h
  refine ⟨_, (@pss_cons _ _ _ _ _ (@ps_set _ _ (2) _ _ _ _ (by exact S.nd) (by rfl) (by first | exact Or.inl rfl | exact Or.inr rfl) pe_int (by first|rfl|decide|exact .inl rfl|exact .inr rfl|(intros; rfl)) (by first|rfl|decide|exact .inl rfl|exact .inr rfl|(intros; rfl))) (@pss_cons _ _ _ _ _ (@ps_for _ _ _ _ _ _ _ _ (by exact PassesOwn.never) (by rfl) (@pi_range1 _ _ _ _ _ _ (by rfl) (by exact T.z_range) (@pa_consN _ _ _ _ _ (pv 1) pa_nil (by first|rfl|decide|exact .inl rfl|exact .inr rfl|(intros; rfl))) (by first|rfl|decide|exact .inl rfl|exact .inr rfl|(intros; rfl))) (@pg_name _ _ (3) _ (by exact S.nd) (by rfl) (by first | exact Or.inl rfl | exact Or.inr rfl) (by first|rfl|decide|exact .inl rfl|exact .inr rfl|(intros; rfl))) (@pss_one _ _ _ (@ps_set _ _ (2) _ _ _ _ (by exact S.nd) (by rfl) (by first | exact Or.inl rfl | exact Or.inr rfl) (@pe_op _ _ _ _ _ _ _ _ op_fdiv (@pe_op _ _ _ _ _ _ _ _ op_mul (pv 2) (@pe_op _ _ _ _ _ _ _ _ op_sub (pv 0) (pv 3))) (@pe_op _ _ _ _ _ _ _ _ op_add (pv 3) pe_int)) (by first|rfl|decide|exact .inl rfl|exact .inr rfl|(intros; rfl)) (by first|rfl|decide|exact .inl rfl|exact .inr rfl|(intros; rfl)))) (by first|rfl|decide|exact .inl rfl|exact .inr rfl|(intros; rfl))) (@pss_one _ _ _ (@ps_ret _ _ _ _ (pv 2))))), ?_⟩
  refine ⟨_, rfl, k, rfl, by omega, by omega, for_range (n := k.toNat) (fun i σ H' => H' = H ∧ ∃ o, σ = [some (.int t), some (.int k), some (.int (setsF t i)), o]) ⟨rfl, _, rfl⟩ ?_ ?_⟩
  · rintro i σ H' hi ⟨rfl, o, rfl⟩
    refine ⟨_, rfl, _, rfl, _, rfl, _, _, rfl, rfl, _, _, rfl, rfl, .inr ⟨by omega, by omega⟩, _, rfl, _, _, rfl, rfl, _, _, rfl, rfl, ⟨by omega, by omega⟩, rfl, some (.int (0 + i)), ?_⟩
    rw [setsF_succ, Int.zero_add]
    rfl
  · rintro σ H' ⟨rfl, o, rfl⟩
    exact ⟨_, rfl, q⟩
noncomputable def spParted : Sp := fun vs H Q _ => ∃ (t : Int) (l : Addr) (bs : List Int), vs = [.int t, .ref l] ∧ H l = some (.lst (bs.map V.int)) ∧ (∀ b ∈ bs, 0 < b ∧ b < 1000000) ∧ ∀ v H', Same H H' → PrAt H' v (partedF t bs) → Q v H'
theorem partedF_take {t : Int} {bs : List Int} {i : Nat} {b : Int} (h : bs[i]? = some b) : partedF t (bs.take (i + 1)) = ((partedF t (bs.take i)).1 / gI (partedF t (bs.take i)).1 b, (partedF t (bs.take i)).2 * (b / gI (partedF t (bs.take i)).1 b)) := by
  unfold partedF
  rw [List.take_add_one, h, List.foldl_append]
  rfl
theorem ok_parted (C_measure : Cal P w K mg base "measure" ["a", "b"] 1 spMeasure) (F : FunAt K mg "parted" ["top", "bottoms"] s_parted) : Cal P w K mg base "parted" ["top", "bottoms"] 2 spParted := by
  have S := sc_parted
  refine F.cal sc_parted (fun vs H Q E h => ?_) (fun f cdv A outer s H vs Q E hr h => ?_)
  · obtain ⟨t, l, bs, rfl, _⟩ := h; rfl
  obtain ⟨t, l, bs, rfl, hl, hb, k⟩ := h
  refine ⟨_, (@pss_cons _ _ _ _ _ (@ps_set _ _ (2) _ _ _ _ (by exact S.nd) (by rfl) (by first | exact Or.inl rfl | exact Or.inr rfl) pe_int (by first|rfl|decide|exact .inl rfl|exact .inr rfl|(intros; rfl)) (by first|rfl|decide|exact .inl rfl|exact .inr rfl|(intros; rfl))) (@pss_cons _ _ _ _ _ (@ps_for _ _ _ _ _ _ _ _ (by exact PassesOwn.never) (by rfl) (@pi_list _ _ _ _ (pv 1)) (@pg_name _ _ (3) _ (by exact S.nd) (by rfl) (by first | exact Or.inl rfl | exact Or.inr rfl) (by first|rfl|decide|exact .inl rfl|exact .inr rfl|(intros; rfl))) (@pss_cons _ _ _ _ _ (@ps_set _ _ (4) _ _ _ _ (by exact S.nd) (by rfl) (by first | exact Or.inl rfl | exact Or.inr rfl) (@cc _ _ _ _ _ _ _ _ _ _ (by exact C_measure) (by exact (hr.mono (by decide))) (@pa_consN _ _ _ _ _ (pv 0) (@pa_consN _ _ _ _ _ (pv 3) pa_nil (by first|rfl|decide|exact .inl rfl|exact .inr rfl|(intros; rfl))) (by first|rfl|decide|exact .inl rfl|exact .inr rfl|(intros; rfl))) (by first|rfl|decide|exact .inl rfl|exact .inr rfl|(intros; rfl)) (by first|rfl|decide|exact .inl rfl|exact .inr rfl|(intros; rfl)) (by first|rfl|decide|exact .inl rfl|exact .inr rfl|(intros; rfl)) (by first|rfl|decide|exact .inl rfl|exact .inr rfl|(intros; rfl))) (by first|rfl|decide|exact .inl rfl|exact .inr rfl|(intros; rfl)) (by first|rfl|decide|exact .inl rfl|exact .inr rfl|(intros; rfl))) (@pss_cons _ _ _ _ _ (@ps_set _ _ (0) _ _ _ _ (by exact S.nd) (by rfl) (by first | exact Or.inl rfl | exact Or.inr rfl) (@pe_op _ _ _ _ _ _ _ _ op_fdivB (pv 0) (pv 4)) (by first|rfl|decide|exact .inl rfl|exact .inr rfl|(intros; rfl)) (by first|rfl|decide|exact .inl rfl|exact .inr rfl|(intros; rfl))) (@pss_one _ _ _ (@ps_set _ _ (2) _ _ _ _ (by exact S.nd) (by rfl) (by first | exact Or.inl rfl | exact Or.inr rfl) (@pe_op _ _ _ _ _ _ _ _ op_mul (pv 2) (@pe_op _ _ _ _ _ _ _ _ op_fdivB (pv 3) (pv 4))) (by first|rfl|decide|exact .inl rfl|exact .inr rfl|(intros; rfl)) (by first|rfl|decide|exact .inl rfl|exact .inr rfl|(intros; rfl)))))) (by first|rfl|decide|exact .inl rfl|exact .inr rfl|(intros; rfl))) (@pss_one _ _ _ (@ps_ret _ _ _ _ (@pe_tup _ _ _ _ _ (@pa_consN _ _ _ _ _ (pv 0) (@pa_consN _ _ _ _ _ (pv 2) pa_nil (by first|rfl|decide|exact .inl rfl|exact .inr rfl|(intros; rfl))) (by first|rfl|decide|exact .inl rfl|exact .inr rfl|(intros; rfl)))))))), ?_⟩
  refine ⟨_, rfl, l, rfl, ⟨_, SqL.of hl⟩, for_list (xs := bs.map V.int) (fun i σ H' => H' = H ∧ ∃ o1 o2, σ = [some (.int (partedF t (bs.take i)).1), some (.ref l), some (.int (partedF t (bs.take i)).2), o1, o2]) ⟨rfl, _, _, rfl⟩ (fun i σ H2 _ ⟨e, _⟩ => by rw [e]; exact SqL.of hl) ?_ ?_⟩
  · rintro i y σ H' hi ⟨rfl, o1, o2, rfl⟩
    rw [List.getElem?_map] at hi
    cases hbi : bs[i]? with
    | none => rw [hbi] at hi; cases hi
    | some b =>
      rw [hbi] at hi
      cases hi
      obtain ⟨b0, b1⟩ := hb b (List.mem_of_getElem? hbi)
      have g0 := gI_pos_right (a := (partedF t (bs.take i)).1) (b := b) (by omega)
      have bb : Bt 20 b := intBits_le_iff.mpr (by show b.natAbs < 2 ^ 20; have : (2 : Nat) ^ 20 = 1048576 := rfl; omega)
      have gb : Bt 8000 (gI (partedF t (bs.take i)).1 b) := (bb.gr (by omega)).mono (by decide)
      have q0 : 0 ≤ b / gI (partedF t (bs.take i)).1 b := Int.ediv_nonneg (by omega) (by omega)
      have q1 : b / gI (partedF t (bs.take i)).1 b ≤ b := Int.ediv_le_self _ (by omega)
      refine ⟨_, rfl, _, rfl, _, _, rfl, ?_⟩
      refine ⟨_, rfl, _, rfl, _, _, rfl, rfl, ⟨g0, gb⟩, ?_⟩
      refine ⟨_, rfl, _, rfl, _, rfl, _, _, rfl, rfl, ⟨g0, gb⟩, _, _, rfl, rfl, .inr ⟨by omega, by omega⟩, rfl, some (.int b), some (.int (gI (partedF t (bs.take i)).1 b)), ?_⟩
      rw [partedF_take hbi]
      rfl
  · rintro σ H' ⟨rfl, o1, o2, rfl⟩
    rw [List.length_map, List.take_length]
    exact ⟨_, rfl, _, rfl, lz 2 rfl, fun p hp => k _ _ (same_new hp _) ⟨p, rfl, upd_same⟩⟩
theorem same_upd {H H' : Hp} {l : Addr} {o : HO} (s : Same H H') (hl : H l = none) : Same H (upd H' l o) := fun b u e => by rw [upd_ne (ne_of_none e hl)]; exact s _ _ e
noncomputable def drawnF (n k : Int) : List (Int × Int) := (List.range n.toNat).map fun (r : Nat) => partedF (((r : Int) + 1) ^ k.toNat - (r : Int) ^ k.toNat) (List.replicate k.toNat n)
noncomputable def unlikeF (n k : Int) : List (Int × Int) := (List.range n.toNat).map fun (r : Nat) => partedF (setsF (r : Int) (k - 1).toNat) [setsF n k.toNat]
theorem map_range_succ {α : Type} (f : Nat → α) (i : Nat) : (List.range (i + 1)).map f = (List.range i).map f ++ [f i] := by
  rw [List.range_succ, List.map_append]; rfl
noncomputable def spTup (f : Int → Int → List (Int × Int)) (ok : Int → Int → Prop) : Sp := fun vs H Q _ => ∃ n k : Int, vs = [.int n, .int k] ∧ ok n k ∧ ∀ (p : Addr) (ys : List V) (H' : Hp), Same H H' → H' p = some (.tup ys) → Prs H' ys (f n k) → Q (.ref p) H'
noncomputable abbrev okD : Int → Int → Prop := fun n k => 1 ≤ n ∧ n ≤ 12 ∧ 1 ≤ k ∧ k ≤ 4
theorem ok_drawn (T : Txt mg) (C_parted : Cal P w K mg base "parted" ["top", "bottoms"] 2 spParted) (C_rows_up_to : Cal P w K mg base "rows_up_to" ["rank", "many"] 1 spRowsUp)
    (F : FunAt K mg "drawn" ["n", "many"] s_drawn) : Cal P w K mg base "drawn" ["n", "many"] 3 (spTup drawnF okD) := by
  have S := sc_drawn
  refine F.cal sc_drawn (fun vs H Q E h => ?_) (fun f cdv A outer s H vs Q E hr h => ?_)
  · obtain ⟨n, k, rfl, _⟩ := h; rfl
  obtain ⟨n, k, rfl, ⟨n1, n2, k1, k2⟩, q⟩ := h
  refine ⟨_, (@pss_one _ _ _ (@ps_ret _ _ _ _ (@pe_callTy _ _ _ _ _ _ _ _ _ call_tuple_of (by rfl) (by exact T.z_tuple) (by exact bt_tuple) (@pa_consN _ _ _ _ _ (@pe_comp _ _ _ _ _ _ _ _ _ _ _ _ _ (by rfl) (by exact (fun _ _ h => h)) (by decide +kernel) (by rfl) (by decide +kernel) (by exact hfr_of rfl) (by exact Sees.frees ["rank"] [("many", 1), ("n", 0)] (fr_cons ⟨rfl, rfl⟩ (fr_cons ⟨rfl, rfl⟩ fr_nil))) (@pi_range1 _ _ _ _ _ _ (by rfl) (by exact T.z_range) (@pa_consN _ _ _ _ _ (pv 0) pa_nil (by first|rfl|decide|exact .inl rfl|exact .inr rfl|(intros; rfl))) (by first|rfl|decide|exact .inl rfl|exact .inr rfl|(intros; rfl))) (fun _ _ _ _ _ => @pg_name _ _ (0) _ (by exact (show (["rank", "many", "n"] : List Str).Nodup by decide +kernel)) (by rfl) (by first | exact Or.inl rfl | exact Or.inr rfl) (by first|rfl|decide|exact .inl rfl|exact .inr rfl|(intros; rfl))) (fun _ _ _ _ _ => pts_nil) (fun _ _ _ _ _ => (@cc _ _ _ _ _ _ _ _ _ _ (by exact C_parted) (by exact (hr.mono (by decide))) (@pa_consN _ _ _ _ _ (@pe_op _ _ _ _ _ _ _ _ op_sub (@cc _ _ _ _ _ _ _ _ _ _ (by exact C_rows_up_to) (by exact (hr.mono (by decide))) (@pa_consN _ _ _ _ _ (@pe_op _ _ _ _ _ _ _ _ op_add (pv 0) pe_int) (@pa_consN _ _ _ _ _ (pv 1) pa_nil (by first|rfl|decide|exact .inl rfl|exact .inr rfl|(intros; rfl))) (by first|rfl|decide|exact .inl rfl|exact .inr rfl|(intros; rfl))) (by first|rfl|decide|exact .inl rfl|exact .inr rfl|(intros; rfl)) (by first|rfl|decide|exact .inl rfl|exact .inr rfl|(intros; rfl)) (by first|rfl|decide|exact .inl rfl|exact .inr rfl|(intros; rfl)) (by first|rfl|decide|exact .inl rfl|exact .inr rfl|(intros; rfl))) (@cc _ _ _ _ _ _ _ _ _ _ (by exact C_rows_up_to) (by exact (hr.mono (by decide))) (@pa_consN _ _ _ _ _ (pv 0) (@pa_consN _ _ _ _ _ (pv 1) pa_nil (by first|rfl|decide|exact .inl rfl|exact .inr rfl|(intros; rfl))) (by first|rfl|decide|exact .inl rfl|exact .inr rfl|(intros; rfl))) (by first|rfl|decide|exact .inl rfl|exact .inr rfl|(intros; rfl)) (by first|rfl|decide|exact .inl rfl|exact .inr rfl|(intros; rfl)) (by first|rfl|decide|exact .inl rfl|exact .inr rfl|(intros; rfl)) (by first|rfl|decide|exact .inl rfl|exact .inr rfl|(intros; rfl)))) (@pa_consN _ _ _ _ _ (@pe_op _ _ _ _ _ _ _ _ op_rep (@pe_lst _ _ _ _ (@pa_consN _ _ _ _ _ (pv 2) pa_nil (by first|rfl|decide|exact .inl rfl|exact .inr rfl|(intros; rfl)))) (pv 1)) pa_nil (by first|rfl|decide|exact .inl rfl|exact .inr rfl|(intros; rfl))) (by first|rfl|decide|exact .inl rfl|exact .inr rfl|(intros; rfl))) (by first|rfl|decide|exact .inl rfl|exact .inr rfl|(intros; rfl)) (by first|rfl|decide|exact .inl rfl|exact .inr rfl|(intros; rfl)) (by first|rfl|decide|exact .inl rfl|exact .inr rfl|(intros; rfl)) (by first|rfl|decide|exact .inl rfl|exact .inr rfl|(intros; rfl)))) (by first|rfl|decide|exact .inl rfl|exact .inr rfl|(intros; rfl))) pa_nil (by first|rfl|decide|exact .inl rfl|exact .inr rfl|(intros; rfl))) (by first|rfl|decide|exact .inl rfl|exact .inr rfl|(intros; rfl)) (by first|rfl|decide|exact .inl rfl|exact .inr rfl|(intros; rfl)) (by first|rfl|decide|exact .inl rfl|exact .inr rfl|(intros; rfl)) (by first|rfl|decide|exact .inl rfl|exact .inr rfl|(intros; rfl))))), ?_⟩
  refine ⟨_, rfl, n, rfl, by omega, by omega, comp_rng (n := n.toNat) (lo := 0) (fs := [some (.int k), some (.int n)]) (fun acc i ys H' => Same H H' ∧ Prs H' ys ((List.range i).map fun (r : Nat) => partedF (((r : Int) + 1) ^ k.toNat - (r : Int) ^ k.toNat) (List.replicate k.toNat n))) (by omega) ?_ ?_ ?_⟩
  · intro acc hacc
    exact ⟨same_new hacc _, .nil⟩
  · rintro acc i ys H' hacc hi hl ⟨s', h'⟩ hH' Q' hQ
    refine ⟨_, rfl, _, _, rfl, rfl, _, rfl, _, _, rfl, by omega, by omega, by omega, by omega, _, rfl, _, rfl, _, _, rfl, by omega, by omega, by omega, by omega, _, _, rfl, rfl, _, rfl, lz 1 rfl, fun l1 hl1 => ?_⟩
    have s1 := same_new hl1 (.lst [.int n])
    refine ⟨_, rfl, l1, k, _, rfl, rfl, upd_same, by omega, by omega, ?_, fun l2 hl2 => ?_⟩
    · show 1 * k.toNat ≤ sizeLine
      rw [sizeLine_eq]; omega
    have s2 := same_new hl2 (.lst (List.replicate k.toNat [V.int n]).flatten)
    refine ⟨_, l2, List.replicate k.toNat n, rfl, by rw [upd_same, rep1], fun b hb => ?_, fun v H3 s3 h3 => ?_⟩
    · have := (List.mem_replicate.mp hb).2
      omega
    have s13 := s1.trans (s2.trans s3)
    have hH3 := s13 _ _ hH'
    refine hQ v H3 hH3 ⟨same_upd (s'.trans s13) hacc, ?_⟩
    rw [map_range_succ]
    have h3' := PrAt.updL (o := .lst (ys ++ [v])) hH3 h3
    rw [Int.zero_add] at h3'
    exact Prs.snoc h3' ((h'.same s13).updL hH3)
  rintro acc ys H' hacc ⟨s', h'⟩ hH' hl
  refine ⟨acc, ys, rfl, .inl ⟨SqL.of hH', fun t ht => ?_⟩⟩
  exact q t ys _ (s'.trans (same_new ht _)) upd_same (h'.same (same_new ht _))
noncomputable abbrev okU : Int → Int → Prop := fun n k => 1 ≤ n ∧ n ≤ 12 ∧ 1 ≤ k ∧ k ≤ n
theorem sets_pos : ∀ n : Nat, n < 13 → ∀ k : Nat, k < 13 → (k ≤ n → 0 < setsF n k ∧ setsF n k < 1000000) := by decide +kernel
theorem ok_unlike (T : Txt mg) (C_parted : Cal P w K mg base "parted" ["top", "bottoms"] 2 spParted) (C_sets : Cal P w K mg base "sets" ["things", "many"] 1 spSets)
    (F : FunAt K mg "unlike" ["n", "many"] s_unlike) : Cal P w K mg base "unlike" ["n", "many"] 3 (spTup unlikeF okU) := by
  have S := sc_unlike
  refine F.cal sc_unlike (fun vs H Q E h => ?_) (fun f cdv A outer s H vs Q E hr h => ?_)
  · obtain ⟨n, k, rfl, _⟩ := h; rfl
  obtain ⟨n, k, rfl, ⟨n1, n2, k1, k2⟩, q⟩ := h
  refine ⟨_, (@pss_one _ _ _ (@ps_ret _ _ _ _ (@pe_callTy _ _ _ _ _ _ _ _ _ call_tuple_of (by rfl) (by exact T.z_tuple) (by exact bt_tuple) (@pa_consN _ _ _ _ _ (@pe_comp _ _ _ _ _ _ _ _ _ _ _ _ _ (by rfl) (by exact (fun _ _ h => h)) (by decide +kernel) (by rfl) (by decide +kernel) (by exact hfr_of rfl) (by exact Sees.frees ["rank"] [("many", 1), ("n", 0)] (fr_cons ⟨rfl, rfl⟩ (fr_cons ⟨rfl, rfl⟩ fr_nil))) (@pi_range1 _ _ _ _ _ _ (by rfl) (by exact T.z_range) (@pa_consN _ _ _ _ _ (pv 0) pa_nil (by first|rfl|decide|exact .inl rfl|exact .inr rfl|(intros; rfl))) (by first|rfl|decide|exact .inl rfl|exact .inr rfl|(intros; rfl))) (fun _ _ _ _ _ => @pg_name _ _ (0) _ (by exact (show (["rank", "many", "n"] : List Str).Nodup by decide +kernel)) (by rfl) (by first | exact Or.inl rfl | exact Or.inr rfl) (by first|rfl|decide|exact .inl rfl|exact .inr rfl|(intros; rfl))) (fun _ _ _ _ _ => pts_nil) (fun _ _ _ _ _ => (@cc _ _ _ _ _ _ _ _ _ _ (by exact C_parted) (by exact (hr.mono (by decide))) (@pa_consN _ _ _ _ _ (@cc _ _ _ _ _ _ _ _ _ _ (by exact C_sets) (by exact (hr.mono (by decide))) (@pa_consN _ _ _ _ _ (pv 0) (@pa_consN _ _ _ _ _ (@pe_op _ _ _ _ _ _ _ _ op_sub (pv 1) pe_int) pa_nil (by first|rfl|decide|exact .inl rfl|exact .inr rfl|(intros; rfl))) (by first|rfl|decide|exact .inl rfl|exact .inr rfl|(intros; rfl))) (by first|rfl|decide|exact .inl rfl|exact .inr rfl|(intros; rfl)) (by first|rfl|decide|exact .inl rfl|exact .inr rfl|(intros; rfl)) (by first|rfl|decide|exact .inl rfl|exact .inr rfl|(intros; rfl)) (by first|rfl|decide|exact .inl rfl|exact .inr rfl|(intros; rfl))) (@pa_consN _ _ _ _ _ (@pe_lst _ _ _ _ (@pa_consN _ _ _ _ _ (@cc _ _ _ _ _ _ _ _ _ _ (by exact C_sets) (by exact (hr.mono (by decide))) (@pa_consN _ _ _ _ _ (pv 2) (@pa_consN _ _ _ _ _ (pv 1) pa_nil (by first|rfl|decide|exact .inl rfl|exact .inr rfl|(intros; rfl))) (by first|rfl|decide|exact .inl rfl|exact .inr rfl|(intros; rfl))) (by first|rfl|decide|exact .inl rfl|exact .inr rfl|(intros; rfl)) (by first|rfl|decide|exact .inl rfl|exact .inr rfl|(intros; rfl)) (by first|rfl|decide|exact .inl rfl|exact .inr rfl|(intros; rfl)) (by first|rfl|decide|exact .inl rfl|exact .inr rfl|(intros; rfl))) pa_nil (by first|rfl|decide|exact .inl rfl|exact .inr rfl|(intros; rfl)))) pa_nil (by first|rfl|decide|exact .inl rfl|exact .inr rfl|(intros; rfl))) (by first|rfl|decide|exact .inl rfl|exact .inr rfl|(intros; rfl))) (by first|rfl|decide|exact .inl rfl|exact .inr rfl|(intros; rfl)) (by first|rfl|decide|exact .inl rfl|exact .inr rfl|(intros; rfl)) (by first|rfl|decide|exact .inl rfl|exact .inr rfl|(intros; rfl)) (by first|rfl|decide|exact .inl rfl|exact .inr rfl|(intros; rfl)))) (by first|rfl|decide|exact .inl rfl|exact .inr rfl|(intros; rfl))) pa_nil (by first|rfl|decide|exact .inl rfl|exact .inr rfl|(intros; rfl))) (by first|rfl|decide|exact .inl rfl|exact .inr rfl|(intros; rfl)) (by first|rfl|decide|exact .inl rfl|exact .inr rfl|(intros; rfl)) (by first|rfl|decide|exact .inl rfl|exact .inr rfl|(intros; rfl)) (by first|rfl|decide|exact .inl rfl|exact .inr rfl|(intros; rfl))))), ?_⟩
  refine ⟨_, rfl, n, rfl, by omega, by omega, comp_rng (n := n.toNat) (lo := 0) (fs := [some (.int k), some (.int n)]) (fun acc i ys H' => Same H H' ∧ Prs H' ys ((List.range i).map fun (r : Nat) => partedF (setsF (r : Int) (k - 1).toNat) [setsF n k.toNat])) (by omega) ?_ ?_ ?_⟩
  · intro acc hacc
    exact ⟨same_new hacc _, .nil⟩
  · rintro acc i ys H' hacc hi hl ⟨s', h'⟩ hH' Q' hQ
    refine ⟨_, rfl, _, rfl, _, _, rfl, rfl, _, _, rfl, by omega, by omega, by omega, by omega, _, rfl, _, rfl, _, _, rfl, by omega, by omega, by omega, by omega, lz 1 rfl, fun l1 hl1 => ?_⟩
    have s1 := same_new hl1 (.lst [.int (setsF n k.toNat)])
    refine ⟨_, l1, [setsF n k.toNat], rfl, upd_same, fun b hb => ?_, fun v H3 s3 h3 => ?_⟩
    · have e : b = setsF n k.toNat := by simpa using hb
      have := sets_pos n.toNat (by omega) k.toNat (by omega) (by omega)
      rw [show ((n.toNat : Nat) : Int) = n by omega] at this
      rw [e]; exact this
    have s13 := s1.trans s3
    have hH3 := s13 _ _ hH'
    refine hQ v H3 hH3 ⟨same_upd (s'.trans s13) hacc, ?_⟩
    rw [map_range_succ]
    have h3' := PrAt.updL (o := .lst (ys ++ [v])) hH3 h3
    rw [Int.zero_add] at h3'
    exact Prs.snoc h3' ((h'.same s13).updL hH3)
  rintro acc ys H' hacc ⟨s', h'⟩ hH' hl
  refine ⟨acc, ys, rfl, .inl ⟨SqL.of hH', fun t ht => ?_⟩⟩
  exact q t ys _ (s'.trans (same_new ht _)) upd_same (h'.same (same_new ht _))
noncomputable def spFalling : Sp := fun vs H Q _ => ∃ l ns, vs = [.ref l] ∧ H l = some (.lst (iv ns)) ∧ ns.length < 64 ∧ ∀ (a : Addr) (ms : List Int) (H' : Hp), ms.Perm ns → ms.Pairwise (· ≥ ·) → H' a = some (.tup (iv ms)) → Same H H' → Q (.ref a) H'
theorem ok_falling (T : Txt2 mg) (F : FunAt K mg "falling" ["numbers"] s_falling) : Cal P w K mg base "falling" ["numbers"] 1 spFalling := by
  have S := sc_falling
  refine F.cal sc_falling (fun vs H Q E h => ?_) (fun f cdv A outer s H vs Q E hr h => ?_)
  · obtain ⟨l, ns, rfl, _⟩ := h; rfl
  obtain ⟨l, ns, rfl, hl, h64, k⟩ := h
  refine ⟨_, (@pss_one _ _ _ (@ps_ret _ _ _ _ (@pe_callTy _ _ _ _ _ _ _ _ _ call_tuple_of (by rfl) (by exact T.z_tuple) (by exact bt_tuple) (@pa_consN _ _ _ _ _ (@pe_sortedR _ _ _ _ _ _ _ _ _ (by rfl) (by exact T.z_sorted) (@pa_consN _ _ _ _ _ (pv 0) pa_nil (by first|rfl|decide|exact .inl rfl|exact .inr rfl|(intros; rfl))) (by first|rfl|decide|exact .inl rfl|exact .inr rfl|(intros; rfl)) (by first|rfl|decide|exact .inl rfl|exact .inr rfl|(intros; rfl))) pa_nil (by first|rfl|decide|exact .inl rfl|exact .inr rfl|(intros; rfl))) (by first|rfl|decide|exact .inl rfl|exact .inr rfl|(intros; rfl)) (by first|rfl|decide|exact .inl rfl|exact .inr rfl|(intros; rfl)) (by first|rfl|decide|exact .inl rfl|exact .inr rfl|(intros; rfl)) (by first|rfl|decide|exact .inl rfl|exact .inr rfl|(intros; rfl))))), ?_⟩
  refine ⟨_, rfl, l, ns, rfl, hl, h64, fun q ms hq pm od => ?_⟩
  have s1 := same_new hq (.lst (iv ms))
  refine ⟨q, iv ms, rfl, .inl ⟨SqL.of upd_same, fun t ht => ?_⟩⟩
  exact k t ms _ pm od upd_same (s1.trans (same_new ht _))
noncomputable def spPutAt : Sp := fun vs H Q _ => ∃ a ns j x, vs = [.ref a, .int ((j : Nat) : Int)] ∧ H a = some (.tup (iv ns)) ∧ ns.length ≤ 6 ∧ ns[j]? = some x ∧ ∀ (b : Addr) (ms : List Int) (H' : Hp), ms.Perm (ns.set j (x + 1)) → ms.Pairwise (· ≥ ·) → H' b = some (.tup (iv ms)) → Same H H' → Q (.ref b) H'
theorem ok_putat (T : Txt2 mg) (C_falling : Cal P w K mg base "falling" ["numbers"] 1 spFalling) (F : FunAt K mg "put_at" ["load", "rank"] s_put_at) : Cal P w K mg base "put_at" ["load", "rank"] 2 spPutAt := by
  have S := sc_put_at
  refine F.cal sc_put_at (fun vs H Q E h => ?_) (fun f cdv A outer s H vs Q E hr h => ?_)
  · obtain ⟨a, ns, j, x, rfl, _⟩ := h; rfl
  obtain ⟨a, ns, j, x, rfl, ha, h6, hx, k⟩ := h
  have hj : j < ns.length := (List.getElem?_eq_some_iff.mp hx).1
  refine ⟨_, (@pss_cons _ _ _ _ _ (@ps_set _ _ (2) _ _ _ _ (by exact S.nd) (by rfl) (by first | exact Or.inl rfl | exact Or.inr rfl) (@pe_callTy _ _ _ _ _ _ _ _ _ call_list_of (by rfl) (by exact T.z_list) (by exact bt_list) (@pa_consN _ _ _ _ _ (pv 0) pa_nil (by first|rfl|decide|exact .inl rfl|exact .inr rfl|(intros; rfl))) (by first|rfl|decide|exact .inl rfl|exact .inr rfl|(intros; rfl)) (by first|rfl|decide|exact .inl rfl|exact .inr rfl|(intros; rfl)) (by first|rfl|decide|exact .inl rfl|exact .inr rfl|(intros; rfl)) (by first|rfl|decide|exact .inl rfl|exact .inr rfl|(intros; rfl))) (by first|rfl|decide|exact .inl rfl|exact .inr rfl|(intros; rfl)) (by first|rfl|decide|exact .inl rfl|exact .inr rfl|(intros; rfl))) (@pss_cons _ _ _ _ _ (@ps_augS _ _ _ _ _ _ _ _ _ _ _ _ _ (pv 2) (pv 1) get_list pe_int ip_add set_list (by first|rfl|decide|exact .inl rfl|exact .inr rfl|(intros; rfl))) (@pss_one _ _ _ (@ps_ret _ _ _ _ (@cc _ _ _ _ _ _ _ _ _ _ (by exact C_falling) (by exact (hr.mono (by decide))) (@pa_consN _ _ _ _ _ (pv 2) pa_nil (by first|rfl|decide|exact .inl rfl|exact .inr rfl|(intros; rfl))) (by first|rfl|decide|exact .inl rfl|exact .inr rfl|(intros; rfl)) (by first|rfl|decide|exact .inl rfl|exact .inr rfl|(intros; rfl)) (by first|rfl|decide|exact .inl rfl|exact .inr rfl|(intros; rfl)) (by first|rfl|decide|exact .inl rfl|exact .inr rfl|(intros; rfl))))))), ?_⟩
  refine ⟨_, rfl, a, _, rfl, .inr (SqT.of ha), fun l hl => ?_⟩
  have s1 := same_new hl (.lst (iv ns))
  refine ⟨_, rfl, _, rfl, l, iv ns, (j : Int), .int x, rfl, rfl, by omega, upd_same, atI_iv hx, x, 1, rfl, rfl, l, iv ns, (j : Int), j, rfl, rfl, upd_same, ixN_nat (by simpa using hj), ?_⟩
  rw [iv_set, upd_upd]
  refine ⟨_, rfl, l, ns.set j (x + 1), rfl, upd_same, by simp; omega, fun b ms H' pm od hb s2 => ?_⟩
  exact k b ms H' pm od hb ((same_new hl _).trans s2)
end
end My
set_option Elab.async false
set_option linter.all false
set_option maxRecDepth 100000
set_option maxHeartbeats 4000000
namespace My
open PySem L2 MA
noncomputable def PenZ (K : PySem.W.Frag) (H : Hp) (p : Addr) (n : Nat) : Prop := ∃ (c : Addr) (ns : List Int) (a l : Int), H p = some (.lst (penV c a l)) ∧ SqL K H c (ns.map V.int) ∧ 0 ≤ a ∧ a ≤ n
theorem PenZ.mono {K : PySem.W.Frag} {H : Hp} {p : Addr} {m n : Nat} (h : PenZ K H p m) (l : m ≤ n) : PenZ K H p n := let ⟨c, ns, a, x, h1, h2, h3, h4⟩ := h; ⟨c, ns, a, x, h1, h2, h3, by omega⟩
theorem PenZ.same {K : PySem.W.Frag} {H H' : Hp} {p : Addr} {n : Nat} (h : PenZ K H p n) (s : Same H H') : PenZ K H' p n := let ⟨c, ns, a, x, h1, h2, h3, h4⟩ := h; ⟨c, ns, a, x, s _ _ h1, s.seq h2, h3, h4⟩
theorem not_pen {c : Addr} {a l : Int} {ns : List Int} (h : penV c a l = ns.map V.int) : False := by
  cases ns with
  | nil => cases h
  | cons x r => cases h
theorem sq_ne {K : PySem.W.Frag} {H : Hp} {p c c' : Addr} {ns : List Int} {a l : Int} (h : SqL K H c (ns.map V.int)) (hp : H p = some (.lst (penV c' a l))) : (∃ o, H c = some o ∧ c ≠ p ∧ ∀ H', H' c = some o → SqL K H' c (ns.map V.int)) ∨ ∀ H', SqL K H' c (ns.map V.int) := by
  rcases h with (h | ⟨ob, h⟩) | h
  · refine .inl ⟨_, h, fun z => ?_, fun H' e => .inl (.inl e)⟩
    rw [z, hp] at h
    exact not_pen (HO.lst.inj (Option.some.inj h))
  · refine .inl ⟨_, h, fun z => ?_, fun H' e => .inl (.inr ⟨ob, e⟩)⟩
    rw [z, hp] at h
    cases h
  · exact .inr fun H' => .inr h
theorem sq_pen {K : PySem.W.Frag} {H : Hp} {p c c' : Addr} {ns : List Int} {a l : Int} {o : HO} (h : SqL K H c (ns.map V.int)) (hp : H p = some (.lst (penV c' a l))) : SqL K (upd H p o) c (ns.map V.int) := by
  rcases sq_ne h hp with ⟨o', e, ne, f⟩ | f
  · exact f _ (by rw [upd_ne ne]; exact e)
  · exact f _
noncomputable def spTakeZ (K : PySem.W.Frag) : Sp := fun vs H Q _ => ∃ (p : Addr) (m : Int) (n : Nat), vs = [.ref p, .int m] ∧ PenZ K H p n ∧ n < 100000 ∧ 0 < m ∧ m < 1073741824 ∧ ∀ (r : Int) (H' : Hp), 0 ≤ r → r < m → PenZ K H' p (n + 1) → SameY p H H' → Q (.int r) H'
noncomputable def spPenZ (K : PySem.W.Frag) : Sp := fun vs H Q _ => ∃ (a : Addr) (ns : List Int), vs = [.ref a] ∧ SqL K H a (ns.map V.int) ∧ ∀ (p : Addr) (H' : Hp), Same H H' → PenZ K H' p 0 → Q (.ref p) H'
section
variable {P : Program} {w : World} {K : PySem.W.Frag} {mg : Str → Option Value} {base : Heap}
theorem ok_penZ (F : FunAt K mg "_law_pen" ["_law_script"] s_l_pen) : Cal P w K mg base "_law_pen" ["_law_script"] 1 (spPenZ K) := by
  have S := sc_l_pen
  refine F.cal sc_l_pen (fun vs H Q E h => ?_) (fun f cdv A outer s H vs Q E hr h => ?_)
  · obtain ⟨a, ns, rfl, _⟩ := h; rfl
  obtain ⟨a, ns, rfl, ha, k⟩ := h
  refine ⟨_, (@pss_one _ _ _ (@ps_ret _ _ _ _ (@pe_lst _ _ _ _ (@pa_consN _ _ _ _ _ (pv 0) (@pa_consN _ _ _ _ _ pe_int (@pa_consN _ _ _ _ _ pe_int pa_nil (by first|rfl|decide|exact .inl rfl|exact .inr rfl|(intros; rfl))) (by first|rfl|decide|exact .inl rfl|exact .inr rfl|(intros; rfl))) (by first|rfl|decide|exact .inl rfl|exact .inr rfl|(intros; rfl)))))), ?_⟩
  refine ⟨_, rfl, lz 3 rfl, fun p hp => ?_⟩
  have s1 := same_new hp (.lst [.ref a, .int 0, .int 0])
  exact k p _ s1 ⟨a, ns, 0, 0, upd_same, s1.seq ha, by omega, by omega⟩
theorem ok_take (T : Txt mg) (F : FunAt K mg "_law_take" ["_law_pen_here", "_law_many"] s_l_take) : Cal P w K mg base "_law_take" ["_law_pen_here", "_law_many"] 1 (spTakeZ K) := by
  have S := sc_l_take
  refine F.cal sc_l_take (fun vs H Q E h => ?_) (fun f cdv A outer s H vs Q E hr h => ?_)
  · obtain ⟨p, m, n, rfl, _⟩ := h; rfl
  obtain ⟨p, m, n, rfl, ⟨c, ns, a, l, hp, hc, ha0, han⟩, hn, hm, hm2, k⟩ := h
  refine ⟨_, (@pss_cons _ _ _ _ _ (@ps_if _ _ _ _ _ _ _ _ (@pt_cmpR _ _ _ _ _ _ _ _ op_gt (@pe_ix _ _ _ _ _ _ _ ix_list (pv 0) pe_int (by exact (fun _ _ => rfl))) pe_int (by exact (nomark _))) (@pss_cons _ _ _ _ _ (@ps_set _ _ (6) _ _ _ _ (by exact S.nd) (by rfl) (by first | exact Or.inl rfl | exact Or.inr rfl) (@pe_op _ _ _ _ _ _ _ _ op_mod (@pe_ix _ _ _ _ _ _ _ ix_list (pv 0) pe_int (by exact (fun _ _ => rfl))) (pv 1)) (by first|rfl|decide|exact .inl rfl|exact .inr rfl|(intros; rfl)) (by first|rfl|decide|exact .inl rfl|exact .inr rfl|(intros; rfl))) (@pss_cons _ _ _ _ _ (@ps_asg _ _ _ _ _ _ (@pe_op _ _ _ _ _ _ _ _ op_fdiv (@pe_ix _ _ _ _ _ _ _ ix_list (pv 0) pe_int (by exact (fun _ _ => rfl))) (pv 1)) (@pg_sub _ _ _ _ _ _ _ (pv 0) pe_int set_list (by first|rfl|decide|exact .inl rfl|exact .inr rfl|(intros; rfl))) (by first|rfl|decide|exact .inl rfl|exact .inr rfl|(intros; rfl)) (by first|rfl|decide|exact .inl rfl|exact .inr rfl|(intros; rfl)) (by first|rfl|decide|exact .inl rfl|exact .inr rfl|(intros; rfl))) (@pss_one _ _ _ (@ps_ret _ _ _ _ (pv 6))))) pss_nil) (@pss_cons _ _ _ _ _ (@ps_set _ _ (2) _ _ _ _ (by exact S.nd) (by rfl) (by first | exact Or.inl rfl | exact Or.inr rfl) (@pe_ix _ _ _ _ _ _ _ ix_list (pv 0) pe_int (by exact (fun _ _ => rfl))) (by first|rfl|decide|exact .inl rfl|exact .inr rfl|(intros; rfl)) (by first|rfl|decide|exact .inl rfl|exact .inr rfl|(intros; rfl))) (@pss_cons _ _ _ _ _ (@ps_asg _ _ _ _ _ _ (@pe_op _ _ _ _ _ _ _ _ op_add (pv 2) pe_int) (@pg_sub _ _ _ _ _ _ _ (pv 0) pe_int set_list (by first|rfl|decide|exact .inl rfl|exact .inr rfl|(intros; rfl))) (by first|rfl|decide|exact .inl rfl|exact .inr rfl|(intros; rfl)) (by first|rfl|decide|exact .inl rfl|exact .inr rfl|(intros; rfl)) (by first|rfl|decide|exact .inl rfl|exact .inr rfl|(intros; rfl))) (@pss_cons _ _ _ _ _ (@ps_set _ _ (3) _ _ _ _ (by exact S.nd) (by rfl) (by first | exact Or.inl rfl | exact Or.inr rfl) (@pe_op _ _ _ _ _ _ _ _ op_add (@pe_op _ _ _ _ _ _ _ _ op_mul pe_int (pv 2)) pe_int) (by first|rfl|decide|exact .inl rfl|exact .inr rfl|(intros; rfl)) (by first|rfl|decide|exact .inl rfl|exact .inr rfl|(intros; rfl))) (@pss_cons _ _ _ _ _ (@ps_if _ _ _ _ _ _ _ _ (@pt_cmpR _ _ _ _ _ _ _ _ op_gt (@pe_callB _ _ _ _ _ _ _ _ _ call_len_seq (by rfl) (by exact T.z_len) (by exact bt_len) (@pa_consN _ _ _ _ _ (@pe_ix _ _ _ _ _ _ _ ix_list (pv 0) pe_int (by exact (fun _ _ => rfl))) pa_nil (by first|rfl|decide|exact .inl rfl|exact .inr rfl|(intros; rfl))) (by first|rfl|decide|exact .inl rfl|exact .inr rfl|(intros; rfl)) (by first|rfl|decide|exact .inl rfl|exact .inr rfl|(intros; rfl)) (by first|rfl|decide|exact .inl rfl|exact .inr rfl|(intros; rfl)) (by first|rfl|decide|exact .inl rfl|exact .inr rfl|(intros; rfl))) pe_int (by exact (nomark _))) (@pss_one _ _ _ (@ps_set _ _ (3) _ _ _ _ (by exact S.nd) (by rfl) (by first | exact Or.inl rfl | exact Or.inr rfl) (@pe_ix _ _ _ _ _ _ _ ix_list (@pe_ix _ _ _ _ _ _ _ ix_list (pv 0) pe_int (by exact (fun _ _ => rfl))) (@pe_op _ _ _ _ _ _ _ _ op_mod (pv 2) (@pe_callB _ _ _ _ _ _ _ _ _ call_len_seq (by rfl) (by exact T.z_len) (by exact bt_len) (@pa_consN _ _ _ _ _ (@pe_ix _ _ _ _ _ _ _ ix_list (pv 0) pe_int (by exact (fun _ _ => rfl))) pa_nil (by first|rfl|decide|exact .inl rfl|exact .inr rfl|(intros; rfl))) (by first|rfl|decide|exact .inl rfl|exact .inr rfl|(intros; rfl)) (by first|rfl|decide|exact .inl rfl|exact .inr rfl|(intros; rfl)) (by first|rfl|decide|exact .inl rfl|exact .inr rfl|(intros; rfl)) (by first|rfl|decide|exact .inl rfl|exact .inr rfl|(intros; rfl)))) (by exact (fun _ _ => rfl))) (by first|rfl|decide|exact .inl rfl|exact .inr rfl|(intros; rfl)) (by first|rfl|decide|exact .inl rfl|exact .inr rfl|(intros; rfl)))) pss_nil) (@pss_cons _ _ _ _ _ (@ps_if _ _ _ _ _ _ _ _ (@PW.pt _ _ _ (@pw_and _ _ _ _ _ _ _ (@pt_cmpR _ _ _ _ _ _ _ _ op_lt (pv 2) (@pe_callB _ _ _ _ _ _ _ _ _ call_len_seq (by rfl) (by exact T.z_len) (by exact bt_len) (@pa_consN _ _ _ _ _ (@pe_ix _ _ _ _ _ _ _ ix_list (pv 0) pe_int (by exact (fun _ _ => rfl))) pa_nil (by first|rfl|decide|exact .inl rfl|exact .inr rfl|(intros; rfl))) (by first|rfl|decide|exact .inl rfl|exact .inr rfl|(intros; rfl)) (by first|rfl|decide|exact .inl rfl|exact .inr rfl|(intros; rfl)) (by first|rfl|decide|exact .inl rfl|exact .inr rfl|(intros; rfl)) (by first|rfl|decide|exact .inl rfl|exact .inr rfl|(intros; rfl))) (by exact (nomark _))) (@pw_and1 _ _ _ _ (@pt_cmpR _ _ _ _ _ _ _ _ op_ge (@pe_callB _ _ _ _ _ _ _ _ _ call_abs (by rfl) (by exact T.z_abs) (by exact bt_abs) (@pa_consN _ _ _ _ _ (pv 3) pa_nil (by first|rfl|decide|exact .inl rfl|exact .inr rfl|(intros; rfl))) (by first|rfl|decide|exact .inl rfl|exact .inr rfl|(intros; rfl)) (by first|rfl|decide|exact .inl rfl|exact .inr rfl|(intros; rfl)) (by first|rfl|decide|exact .inl rfl|exact .inr rfl|(intros; rfl)) (by first|rfl|decide|exact .inl rfl|exact .inr rfl|(intros; rfl))) (@pe_op _ _ _ _ _ _ _ _ op_pow pe_int pe_int) (by exact (nomark _)))))) (@pss_cons _ _ _ _ _ (@ps_asg _ _ _ _ _ _ (@pe_op _ _ _ _ _ _ _ _ op_fdiv (@pe_callB _ _ _ _ _ _ _ _ _ call_abs (by rfl) (by exact T.z_abs) (by exact bt_abs) (@pa_consN _ _ _ _ _ (pv 3) pa_nil (by first|rfl|decide|exact .inl rfl|exact .inr rfl|(intros; rfl))) (by first|rfl|decide|exact .inl rfl|exact .inr rfl|(intros; rfl)) (by first|rfl|decide|exact .inl rfl|exact .inr rfl|(intros; rfl)) (by first|rfl|decide|exact .inl rfl|exact .inr rfl|(intros; rfl)) (by first|rfl|decide|exact .inl rfl|exact .inr rfl|(intros; rfl))) (pv 1)) (@pg_sub _ _ _ _ _ _ _ (pv 0) pe_int set_list (by first|rfl|decide|exact .inl rfl|exact .inr rfl|(intros; rfl))) (by first|rfl|decide|exact .inl rfl|exact .inr rfl|(intros; rfl)) (by first|rfl|decide|exact .inl rfl|exact .inr rfl|(intros; rfl)) (by first|rfl|decide|exact .inl rfl|exact .inr rfl|(intros; rfl))) (@pss_one _ _ _ (@ps_ret _ _ _ _ (@pe_op _ _ _ _ _ _ _ _ op_mod (@pe_callB _ _ _ _ _ _ _ _ _ call_abs (by rfl) (by exact T.z_abs) (by exact bt_abs) (@pa_consN _ _ _ _ _ (pv 3) pa_nil (by first|rfl|decide|exact .inl rfl|exact .inr rfl|(intros; rfl))) (by first|rfl|decide|exact .inl rfl|exact .inr rfl|(intros; rfl)) (by first|rfl|decide|exact .inl rfl|exact .inr rfl|(intros; rfl)) (by first|rfl|decide|exact .inl rfl|exact .inr rfl|(intros; rfl)) (by first|rfl|decide|exact .inl rfl|exact .inr rfl|(intros; rfl))) (pv 1))))) pss_nil) (@pss_cons _ _ _ _ _ (@ps_set _ _ (4) _ _ _ _ (by exact S.nd) (by rfl) (by first | exact Or.inl rfl | exact Or.inr rfl) (@pe_ix _ _ _ _ _ _ _ ix_tup (@pe_tup _ _ _ _ _ (@pa_consN _ _ _ _ _ pe_int (@pa_consN _ _ _ _ _ pe_int (@pa_consN _ _ _ _ _ pe_int (@pa_consN _ _ _ _ _ pe_int (@pa_consN _ _ _ _ _ pe_int (@pa_consN _ _ _ _ _ pe_int (@pa_consN _ _ _ _ _ pe_int pa_nil (by first|rfl|decide|exact .inl rfl|exact .inr rfl|(intros; rfl))) (by first|rfl|decide|exact .inl rfl|exact .inr rfl|(intros; rfl))) (by first|rfl|decide|exact .inl rfl|exact .inr rfl|(intros; rfl))) (by first|rfl|decide|exact .inl rfl|exact .inr rfl|(intros; rfl))) (by first|rfl|decide|exact .inl rfl|exact .inr rfl|(intros; rfl))) (by first|rfl|decide|exact .inl rfl|exact .inr rfl|(intros; rfl))) (by first|rfl|decide|exact .inl rfl|exact .inr rfl|(intros; rfl)))) (@pe_op _ _ _ _ _ _ _ _ op_mod (pv 2) pe_int) (by exact (fun _ _ => rfl))) (by first|rfl|decide|exact .inl rfl|exact .inr rfl|(intros; rfl)) (by first|rfl|decide|exact .inl rfl|exact .inr rfl|(intros; rfl))) (@pss_cons _ _ _ _ _ (@ps_set _ _ (5) _ _ _ _ (by exact S.nd) (by rfl) (by first | exact Or.inl rfl | exact Or.inr rfl) (@pe_op _ _ _ _ _ _ _ _ op_mod (@pe_op _ _ _ _ _ _ _ _ op_pow (@pe_op _ _ _ _ _ _ _ _ op_add (@pe_op _ _ _ _ _ _ _ _ op_mul (@pe_op _ _ _ _ _ _ _ _ op_mod (pv 3) (pv 4)) (@pe_op _ _ _ _ _ _ _ _ op_add (@pe_op _ _ _ _ _ _ _ _ op_mul pe_int (pv 2)) pe_int)) (pv 2)) pe_int) (pv 4)) (by first|rfl|decide|exact .inl rfl|exact .inr rfl|(intros; rfl)) (by first|rfl|decide|exact .inl rfl|exact .inr rfl|(intros; rfl))) (@pss_cons _ _ _ _ _ (@ps_set _ _ (5) _ _ _ _ (by exact S.nd) (by rfl) (by first | exact Or.inl rfl | exact Or.inr rfl) (@pe_op _ _ _ _ _ _ _ _ op_mod (@pe_op _ _ _ _ _ _ _ _ op_add (@pe_op _ _ _ _ _ _ _ _ op_mul (pv 5) (@pe_op _ _ _ _ _ _ _ _ op_add (@pe_op _ _ _ _ _ _ _ _ op_add (@pe_op _ _ _ _ _ _ _ _ op_mod (pv 5) pe_int) (pv 2)) pe_int)) (@pe_op _ _ _ _ _ _ _ _ op_mod (pv 3) pe_int)) pe_int) (by first|rfl|decide|exact .inl rfl|exact .inr rfl|(intros; rfl)) (by first|rfl|decide|exact .inl rfl|exact .inr rfl|(intros; rfl))) (@pss_one _ _ _ (@ps_ret _ _ _ _ (@pe_op _ _ _ _ _ _ _ _ op_mod (@pe_op _ _ _ _ _ _ _ _ op_fdiv (pv 5) pe_int) (pv 1))))))))))))), ?_⟩
  apply joinI1 (C := fun (x : Int) (H' : Hp) => PenZ K H' p (n + 1) ∧ SameY p H H')
  case main =>
    intro key
    refine ⟨_, rfl, p, _, _, _, rfl, rfl, SqL.of hp, rfl, _, _, rfl, rfl, _, rfl, ?_⟩
    refine ite2 (fun _ => ?_) (fun _ => ?_)
    · refine ⟨_, rfl, p, _, _, _, rfl, rfl, SqL.of hp, rfl, _, rfl, _, _, rfl, rfl, hm, ?_⟩
      refine ⟨_, rfl, p, _, _, _, rfl, rfl, SqL.of hp, rfl, _, rfl, _, _, rfl, rfl, ⟨hm, hm2⟩, _, rfl, p, _, _, _, rfl, rfl, hp, rfl, ?_⟩
      refine ⟨_, rfl, ?_⟩
      exact k _ _ (Int.emod_nonneg _ (by omega)) (Int.emod_lt_of_pos _ hm) ⟨c, ns, a, _, upd_same, sq_pen hc hp, ha0, by omega⟩ (SameY.upd hp)
    refine ⟨_, rfl, p, _, _, _, rfl, rfl, SqL.of hp, rfl, ?_⟩
    refine ⟨_, rfl, _, _, rfl, rfl, _, rfl, p, _, _, _, rfl, rfl, hp, rfl, ?_⟩
    have hp1 : (upd H p (.lst (penV c (a + 1) l))) p = some (.lst (penV c (a + 1) l)) := upd_same
    have hc1 : SqL K (upd H p (.lst (penV c (a + 1) l))) c (ns.map V.int) := sq_pen hc hp
    have x1 : SameY p H (upd H p (.lst (penV c (a + 1) l))) := SameY.upd hp
    have es : (penV c a l).set (Int.toNat 1) (V.int (a + 1)) = penV c (a + 1) l := rfl
    rw [es]
    generalize upd H p (.lst (penV c (a + 1) l)) = H1 at hp1 hc1 x1
    have pen1 : PenZ K H1 p (n + 1) := ⟨c, ns, a + 1, l, hp1, hc1, by omega, by omega⟩
    have ha1 : a ≤ 100000 := by omega
    refine ⟨_, rfl, _, _, rfl, rfl, .inl ⟨by decide, by decide⟩, _, _, rfl, rfl, ?_⟩
    refine ⟨_, rfl, p, _, _, _, rfl, rfl, SqL.of hp1, rfl, c, _, rfl, .inl (hc1), _, _, rfl, rfl, _, rfl, ?_⟩
    refine ite2 (fun c0 => ?_) (fun c0 => ?_)
    · have hl : 0 < ns.length := by
        have : (0 : Int) < (((ns.map V.int).length : Nat) : Int) := of_decide_eq_true c0
        rw [List.length_map] at this
        omega
      obtain ⟨z, hz⟩ := cell_at (ns := ns) a hl
      refine ⟨_, rfl, p, _, _, _, rfl, rfl, SqL.of hp1, rfl, _, rfl, _, rfl, p, _, _, _, rfl, rfl, SqL.of hp1, rfl, c, _, rfl, .inl (hc1), _, _, rfl, rfl, (by rw [List.length_map]; omega), c, _, _, _, rfl, rfl, hc1, hz, ?_⟩
      refine ⟨_, rfl, _, rfl, p, _, _, _, rfl, rfl, SqL.of hp1, rfl, c, _, rfl, .inl (hc1), _, _, rfl, rfl, _, rfl, ?_⟩
      refine ite2 (fun c1 => ?_) (fun c1 => iteF ?_)
      · refine ⟨_, rfl, _, rfl, _, _, rfl, rfl, ⟨by decide, by decide, by decide⟩, _, _, rfl, rfl, _, rfl, ?_⟩
        refine ite2 (fun c2 => ?_) (fun c2 => ?_)
        · refine ⟨_, rfl, _, rfl, _, rfl, _, _, rfl, rfl, ⟨hm, hm2⟩, _, rfl, p, _, _, _, rfl, rfl, hp1, rfl, ?_⟩
          refine ⟨_, rfl, _, rfl, _, rfl, _, _, rfl, rfl, hm, ?_⟩
          exact k _ _ (Int.emod_nonneg _ (by omega)) (Int.emod_lt_of_pos _ hm) ⟨c, ns, a + 1, _, upd_same, sq_pen hc1 hp1, by omega, by omega⟩ (x1.trans (SameY.upd hp1))
        · exact key z H1 ⟨pen1, x1⟩
      · exact key z H1 ⟨pen1, x1⟩
    · refine ⟨_, rfl, _, rfl, p, _, _, _, rfl, rfl, SqL.of hp1, rfl, c, _, rfl, .inl (hc1), _, _, rfl, rfl, _, rfl, ?_⟩
      refine ite2 (fun c1 => ?_) (fun c1 => iteF ?_)
      · exfalso
        have e1 : ¬ (0 : Int) < (((ns.map V.int).length : Nat) : Int) := by simpa using c0
        have e2 : a < (((ns.map V.int).length : Nat) : Int) := of_decide_eq_true c1
        omega
      · exact key (13 * a + 7) H1 ⟨pen1, x1⟩
  case key =>
    rintro x H' ⟨pen1, x1⟩
    have a1 : a ≤ 100000 := by omega
    obtain ⟨pr, hpr, pr0, pr1⟩ : ∃ pr : Int, atI ([.int 2147483629, .int 2147483587, .int 2147483647, .int 2147483563, .int 2147483579, .int 2147483543, .int 2147483549] : List V) (a % 7) = some (.int pr) ∧ 0 < pr ∧ pr ≤ 2147483647 := by
      rcases (show a % 7 = 0 ∨ a % 7 = 1 ∨ a % 7 = 2 ∨ a % 7 = 3 ∨ a % 7 = 4 ∨ a % 7 = 5 ∨ a % 7 = 6 by omega) with e | e | e | e | e | e | e <;> rw [e]
      · exact ⟨2147483629, rfl, by decide, by decide⟩
      · exact ⟨2147483587, rfl, by decide, by decide⟩
      · exact ⟨2147483647, rfl, by decide, by decide⟩
      · exact ⟨2147483563, rfl, by decide, by decide⟩
      · exact ⟨2147483579, rfl, by decide, by decide⟩
      · exact ⟨2147483543, rfl, by decide, by decide⟩
      · exact ⟨2147483549, rfl, by decide, by decide⟩
    refine ⟨lz 7 rfl, fun t ht => ⟨_, rfl, _, _, rfl, rfl, (show (0 : Int) < 7 by decide), t, _, _, _, rfl, rfl, SqT.of upd_same, hpr, ?_⟩⟩
    have st := same_new ht (.tup [.int 2147483629, .int 2147483587, .int 2147483647, .int 2147483563, .int 2147483579, .int 2147483543, .int 2147483549])
    have e0 := Int.emod_nonneg x (show pr ≠ 0 by omega)
    have e1 := Int.emod_lt_of_pos x pr0
    have b0 : 0 ≤ x % pr * (2 * a + 5) + a := by have := Int.mul_nonneg e0 (show 0 ≤ 2 * a + 5 by omega); omega
    have b1 : x % pr * (2 * a + 5) + a < 2 ^ 60 := by
      have := Int.mul_le_mul (show x % pr ≤ 2147483647 by omega) (show 2 * a + 5 ≤ 200005 by omega) (by omega) (by decide)
      omega
    refine ⟨_, rfl, _, rfl, _, _, rfl, rfl, pr0, _, rfl, _, _, rfl, rfl, .inl ⟨by decide, by decide⟩, _, _, rfl, rfl, _, _, rfl, rfl, .inl ⟨by omega, by omega⟩, _, rfl, _, _, rfl, rfl, _, _, rfl, rfl, ?cp, _, rfl, _, _, rfl, rfl, pr0, ?_⟩
    case cp => exact ⟨by decide, by decide, by omega⟩
    have w0 := Int.emod_nonneg ((x % pr * (2 * a + 5) + a) ^ Int.toNat 5) (show pr ≠ 0 by omega)
    have w1 := Int.emod_lt_of_pos ((x % pr * (2 * a + 5) + a) ^ Int.toNat 5) pr0
    dsimp only
    generalize (x % pr * (2 * a + 5) + a) ^ Int.toNat 5 % pr = y at w0 w1 ⊢
    have c0 := Int.emod_nonneg y (show (65519 : Int) ≠ 0 by decide)
    have c1 := Int.emod_lt_of_pos y (show (0 : Int) < 65519 by decide)
    refine ⟨_, rfl, _, rfl, _, _, rfl, rfl, (show (0 : Int) < 65519 by decide), _, rfl, _, _, rfl, rfl, _, _, rfl, rfl, _, _, rfl, rfl, .inl ⟨by omega, by omega⟩, _, rfl, _, _, rfl, rfl, (show (0 : Int) < 65521 by decide), _, _, rfl, rfl, _, _, rfl, rfl, (show (0 : Int) < 2147483489 by decide), ?_⟩
    refine ⟨_, rfl, _, _, rfl, rfl, ⟨by decide, by decide⟩, _, rfl, _, _, rfl, rfl, hm, ?_⟩
    exact k _ _ (Int.emod_nonneg _ (by omega)) (Int.emod_lt_of_pos _ hm) (pen1.same st) (x1.trans (Same.y st))
end
end My
set_option Elab.async false
set_option linter.all false
set_option maxRecDepth 100000
set_option maxHeartbeats 4000000
namespace My
open PySem L2 MA
theorem shUpdL {H : Hp} {l : Addr} {zs : List V} {o : HO} {v : V} {q : Rat} (hl : H l = some (.lst zs)) (h : ShAt H v q) : ShAt (upd H l o) v q := by
  obtain ⟨a, rfl, ha⟩ := h
  exact ⟨a, rfl, by rw [upd_ne (ne_of ha hl (by intro z; cases z))]; exact ha⟩
theorem Shs.updL {H : Hp} {l : Addr} {zs : List V} {o : HO} (hl : H l = some (.lst zs)) : ∀ {xs : List V} {qs : List Rat}, Shs H xs qs → Shs (upd H l o) xs qs
  | _, _, .nil => .nil
  | _, _, .cons r t => .cons (shUpdL hl r) (Shs.updL hl t)
theorem Shs.snoc {H : Hp} {v : V} {q : Rat} (h : ShAt H v q) : ∀ {xs : List V} {qs : List Rat}, Shs H xs qs → Shs H (xs ++ [v]) (qs ++ [q])
  | _, _, .nil => .cons h .nil
  | _, _, .cons r t => .cons r (Shs.snoc h t)
theorem Shs.length {H : Hp} {xs : List V} {qs : List Rat} (h : Shs H xs qs) : xs.length = qs.length := Paired.length h
theorem Shs.at {H : Hp} {xs : List V} {qs : List Rat} {i : Nat} {x : V} (h : Shs H xs qs) (e : xs[i]? = some x) : ∃ q, qs[i]? = some q ∧ ShAt H x q := Paired.at' h e
noncomputable abbrev prq (q : Rat) : Int × Int := (q.num, (q.den : Int))
theorem shs_of : ∀ {H : Hp} {qs : List Rat} {xs : List V}, Prs H xs (qs.map prq) → Shs H xs qs
  | _, [], _, .nil => .nil
  | _, q :: qs, _, .cons r t => .cons r (shs_of t)
noncomputable def RuAt (H : Hp) (v : V) (qs : List Rat) : Prop := ∃ a xs, v = .ref a ∧ H a = some (.tup xs) ∧ Shs H xs qs
theorem RuAt.same {H H' : Hp} {v : V} {qs : List Rat} (h : RuAt H v qs) (s : Same H H') : RuAt H' v qs := let ⟨a, xs, e, h1, h2⟩ := h; ⟨a, xs, e, s _ _ h1, h2.same s⟩
noncomputable def mixF (q : Rat) (a b : Rat) : Rat := q * a + (1 - q) * b
section
variable {P : Program} {w : World} {K : PySem.W.Frag} {mg : Str → Option Value} {base : Heap}
noncomputable def spAsk0 : Sp := fun vs H Q E => ∃ a b xs ys, vs = [.ref a, .ref b] ∧ H a = some (.tup xs) ∧ H b = some (.tup ys) ∧ xs.length = ys.length ∧ Q .non H
theorem ok_ask (T : Txt2 mg) (F : FunAt K mg "ask_as_many" ["one", "other"] s_ask_as_many) : Cal P w K mg base "ask_as_many" ["one", "other"] 1 spAsk0 := by
  have S := sc_ask_as_many
  refine F.cal sc_ask_as_many (fun vs H Q E h => ?_) (fun f cdv A outer s H vs Q E hr h => ?_)
  · obtain ⟨a, b, xs, ys, rfl, _⟩ := h; rfl
  obtain ⟨a, b, xs, ys, rfl, ha, hb, hl, k⟩ := h
  refine ⟨_, (@pss_one _ _ _ (@ps_if _ _ _ _ _ _ _ _ (@pt_cmpR _ _ _ _ _ _ _ _ op_ne (@pe_callB _ _ _ _ _ _ _ _ _ call_len_seq (by rfl) (by exact T.z_len) (by exact bt_len) (@pa_consN _ _ _ _ _ (pv 0) pa_nil (by first|rfl|decide|exact .inl rfl|exact .inr rfl|(intros; rfl))) (by first|rfl|decide|exact .inl rfl|exact .inr rfl|(intros; rfl)) (by first|rfl|decide|exact .inl rfl|exact .inr rfl|(intros; rfl)) (by first|rfl|decide|exact .inl rfl|exact .inr rfl|(intros; rfl)) (by first|rfl|decide|exact .inl rfl|exact .inr rfl|(intros; rfl))) (@pe_callB _ _ _ _ _ _ _ _ _ call_len_seq (by rfl) (by exact T.z_len) (by exact bt_len) (@pa_consN _ _ _ _ _ (pv 1) pa_nil (by first|rfl|decide|exact .inl rfl|exact .inr rfl|(intros; rfl))) (by first|rfl|decide|exact .inl rfl|exact .inr rfl|(intros; rfl)) (by first|rfl|decide|exact .inl rfl|exact .inr rfl|(intros; rfl)) (by first|rfl|decide|exact .inl rfl|exact .inr rfl|(intros; rfl)) (by first|rfl|decide|exact .inl rfl|exact .inr rfl|(intros; rfl))) (by exact (nomark _))) (@pss_one _ _ _ ps_never) pss_nil)), ?_⟩
  refine ⟨_, rfl, a, _, rfl, .inr (SqT.of ha), _, rfl, b, _, rfl, .inr (SqT.of hb), rfl, _, rfl, ?_⟩
  exact ite2 (fun c => absurd c (by simp [hl])) fun _ => k
noncomputable def spMixed : Sp := fun vs H Q E => ∃ s o r q qs rs, vs = [s, o, r] ∧ ShAt H s q ∧ RuAt H o qs ∧ RuAt H r rs ∧ SB 30 q ∧ (∀ x ∈ qs, SB 1000 x) ∧ (∀ x ∈ rs, SB 1000 x) ∧ qs.length ≤ 100 ∧ qs.length = rs.length ∧
  (∀ v H', Same H H' → RuAt H' v (List.zipWith (mixF q) qs rs) → Q v H')
theorem ok_mixed (T : Txt2 mg) (C_ask_as_many : Cal P w K mg base "ask_as_many" ["one", "other"] 1 spAsk0) (C_plus : Cal P w K mg base "plus" ["a", "b"] 2 spPlus) (C_minus : Cal P w K mg base "minus" ["a", "b"] 3 spMinus) (C_times : Cal P w K mg base "times" ["a", "b"] 3 spTimes)
    (F : FunAt K mg "mixed" ["share", "one", "other"] s_mixed) : Cal P w K mg base "mixed" ["share", "one", "other"] 4 spMixed := by
  have S := sc_mixed
  refine F.cal sc_mixed (fun vs H Q E h => ?_) (fun f cdv A outer s H vs Q E hr h => ?_)
  · obtain ⟨s, o, r, q, qs, rs, rfl, _⟩ := h; rfl
  obtain ⟨vs, vo, vr, q, qs, rs, rfl, hs, ⟨a, xs, rfl, ha, hxs⟩, ⟨b, ys, rfl, hb, hys⟩, bq, bqs, brs, hlen, e', k⟩ := h
  refine ⟨_, (@pss_cons _ _ _ _ _ (@ps_expr _ _ _ _ (@cc _ _ _ _ _ _ _ _ _ _ (by exact C_ask_as_many) (by exact (hr.mono (by decide))) (@pa_consN _ _ _ _ _ (pv 1) (@pa_consN _ _ _ _ _ (pv 2) pa_nil (by first|rfl|decide|exact .inl rfl|exact .inr rfl|(intros; rfl))) (by first|rfl|decide|exact .inl rfl|exact .inr rfl|(intros; rfl))) (by first|rfl|decide|exact .inl rfl|exact .inr rfl|(intros; rfl)) (by first|rfl|decide|exact .inl rfl|exact .inr rfl|(intros; rfl)) (by first|rfl|decide|exact .inl rfl|exact .inr rfl|(intros; rfl)) (by first|rfl|decide|exact .inl rfl|exact .inr rfl|(intros; rfl))) (by first|rfl|decide|exact .inl rfl|exact .inr rfl|(intros; rfl))) (@pss_cons _ _ _ _ _ (@ps_set _ _ (3) _ _ _ _ (by exact S.nd) (by rfl) (by first | exact Or.inl rfl | exact Or.inr rfl) (@cc _ _ _ _ _ _ _ _ _ _ (by exact C_minus) (by exact (hr.mono (by decide))) (@pa_consN _ _ _ _ _ (@pe_tup _ _ _ _ _ (@pa_consN _ _ _ _ _ pe_int (@pa_consN _ _ _ _ _ pe_int pa_nil (by first|rfl|decide|exact .inl rfl|exact .inr rfl|(intros; rfl))) (by first|rfl|decide|exact .inl rfl|exact .inr rfl|(intros; rfl)))) (@pa_consN _ _ _ _ _ (pv 0) pa_nil (by first|rfl|decide|exact .inl rfl|exact .inr rfl|(intros; rfl))) (by first|rfl|decide|exact .inl rfl|exact .inr rfl|(intros; rfl))) (by first|rfl|decide|exact .inl rfl|exact .inr rfl|(intros; rfl)) (by first|rfl|decide|exact .inl rfl|exact .inr rfl|(intros; rfl)) (by first|rfl|decide|exact .inl rfl|exact .inr rfl|(intros; rfl)) (by first|rfl|decide|exact .inl rfl|exact .inr rfl|(intros; rfl))) (by first|rfl|decide|exact .inl rfl|exact .inr rfl|(intros; rfl)) (by first|rfl|decide|exact .inl rfl|exact .inr rfl|(intros; rfl))) (@pss_one _ _ _ (@ps_ret _ _ _ _ (@pe_callTy _ _ _ _ _ _ _ _ _ call_tuple_of (by rfl) (by exact T.z_tuple) (by exact bt_tuple) (@pa_consN _ _ _ _ _ (@pe_comp _ _ _ _ _ _ _ _ _ _ _ _ _ (by rfl) (by exact (fun _ _ h => h)) (by decide +kernel) (by rfl) (by decide +kernel) (by exact hfr_of rfl) (by exact Sees.frees ["a", "b"] [("share", 0), ("rest", 3)] (fr_cons ⟨rfl, rfl⟩ (fr_cons ⟨rfl, rfl⟩ fr_nil))) (@pi_zipB false false _ _ _ _ _ _ _ _ _ (by rfl) (by exact T.z_zip) (@pa_consN _ _ _ _ _ (pv 1) (@pa_consN _ _ _ _ _ (pv 2) pa_nil (by first|rfl|decide|exact .inl rfl|exact .inr rfl|(intros; rfl))) (by first|rfl|decide|exact .inl rfl|exact .inr rfl|(intros; rfl))) (by first|rfl|decide|exact .inl rfl|exact .inr rfl|(intros; rfl)) (by first|rfl|decide|exact .inl rfl|exact .inr rfl|(intros; rfl))) (fun _ _ _ _ _ => @pg_tup0 _ _ _ _ _ (2) (by rfl) (@pgs_cons _ _ _ _ _ (@pg_name _ _ (0) _ (by exact (show (["a", "b", "share", "rest"] : List Str).Nodup by decide +kernel)) (by rfl) (by first | exact Or.inl rfl | exact Or.inr rfl) (by first|rfl|decide|exact .inl rfl|exact .inr rfl|(intros; rfl))) (@pgs_cons _ _ _ _ _ (@pg_name _ _ (1) _ (by exact (show (["a", "b", "share", "rest"] : List Str).Nodup by decide +kernel)) (by rfl) (by first | exact Or.inl rfl | exact Or.inr rfl) (by first|rfl|decide|exact .inl rfl|exact .inr rfl|(intros; rfl))) pgs_nil (by first|rfl|decide|exact .inl rfl|exact .inr rfl|(intros; rfl))) (by first|rfl|decide|exact .inl rfl|exact .inr rfl|(intros; rfl))) (by first|rfl|decide|exact .inl rfl|exact .inr rfl|(intros; rfl)) (by first|rfl|decide|exact .inl rfl|exact .inr rfl|(intros; rfl))) (fun _ _ _ _ _ => pts_nil) (fun _ _ _ _ _ => (@cc _ _ _ _ _ _ _ _ _ _ (by exact C_plus) (by exact (hr.mono (by decide))) (@pa_consN _ _ _ _ _ (@cc _ _ _ _ _ _ _ _ _ _ (by exact C_times) (by exact (hr.mono (by decide))) (@pa_consN _ _ _ _ _ (pv 2) (@pa_consN _ _ _ _ _ (pv 0) pa_nil (by first|rfl|decide|exact .inl rfl|exact .inr rfl|(intros; rfl))) (by first|rfl|decide|exact .inl rfl|exact .inr rfl|(intros; rfl))) (by first|rfl|decide|exact .inl rfl|exact .inr rfl|(intros; rfl)) (by first|rfl|decide|exact .inl rfl|exact .inr rfl|(intros; rfl)) (by first|rfl|decide|exact .inl rfl|exact .inr rfl|(intros; rfl)) (by first|rfl|decide|exact .inl rfl|exact .inr rfl|(intros; rfl))) (@pa_consN _ _ _ _ _ (@cc _ _ _ _ _ _ _ _ _ _ (by exact C_times) (by exact (hr.mono (by decide))) (@pa_consN _ _ _ _ _ (pv 3) (@pa_consN _ _ _ _ _ (pv 1) pa_nil (by first|rfl|decide|exact .inl rfl|exact .inr rfl|(intros; rfl))) (by first|rfl|decide|exact .inl rfl|exact .inr rfl|(intros; rfl))) (by first|rfl|decide|exact .inl rfl|exact .inr rfl|(intros; rfl)) (by first|rfl|decide|exact .inl rfl|exact .inr rfl|(intros; rfl)) (by first|rfl|decide|exact .inl rfl|exact .inr rfl|(intros; rfl)) (by first|rfl|decide|exact .inl rfl|exact .inr rfl|(intros; rfl))) pa_nil (by first|rfl|decide|exact .inl rfl|exact .inr rfl|(intros; rfl))) (by first|rfl|decide|exact .inl rfl|exact .inr rfl|(intros; rfl))) (by first|rfl|decide|exact .inl rfl|exact .inr rfl|(intros; rfl)) (by first|rfl|decide|exact .inl rfl|exact .inr rfl|(intros; rfl)) (by first|rfl|decide|exact .inl rfl|exact .inr rfl|(intros; rfl)) (by first|rfl|decide|exact .inl rfl|exact .inr rfl|(intros; rfl)))) (by first|rfl|decide|exact .inl rfl|exact .inr rfl|(intros; rfl))) pa_nil (by first|rfl|decide|exact .inl rfl|exact .inr rfl|(intros; rfl))) (by first|rfl|decide|exact .inl rfl|exact .inr rfl|(intros; rfl)) (by first|rfl|decide|exact .inl rfl|exact .inr rfl|(intros; rfl)) (by first|rfl|decide|exact .inl rfl|exact .inr rfl|(intros; rfl)) (by first|rfl|decide|exact .inl rfl|exact .inr rfl|(intros; rfl))))))), ?_⟩
  refine ⟨_, rfl, _, rfl, a, b, xs, ys, rfl, ha, hb, (by rw [hxs.length, hys.length]; exact e'), ?_⟩
  have e : xs.length = ys.length := by rw [hxs.length, hys.length]; exact e'
  refine ⟨(by show 2 ≤ sizeLine; decide), fun t1 ht1 => ?_⟩
  have s1 := same_new ht1 (.tup [.int 1, .int 1])
  refine ⟨_, rfl, _, _, 1, q, rfl, ⟨t1, rfl, upd_same⟩, hs.same s1, ⟨by decide, by decide⟩, bq.mono (by decide), trivial, fun vrest H2 s2 hrest => ?_⟩
  have s12 := s1.trans s2
  replace hs := hs.same s12; replace ha := s12 _ _ ha; replace hb := s12 _ _ hb; replace hxs := hxs.same s12; replace hys := hys.same s12
  have brest : SB 40 (1 - q) := (SB.sub (m := 1) ⟨by decide, by decide⟩ bq).mono (by decide)
  have hrest : ShAt H2 vrest (1 - q) := hrest
  refine ⟨_, rfl, _, rfl, a, b, rfl, ⟨xs, SqB.t ha⟩, ⟨ys, SqB.t hb⟩, comp_zipP (b1 := false) (b2 := false) (xs := xs) (ys := ys) (fs := [some vs, some vrest]) (fun p i zs H' => Same H2 H' ∧ Shs H' zs (List.zipWith (mixF q) (qs.take i) (rs.take i))) (by have := hxs.length; omega) e (fun p hp => ⟨same_new hp _, .nil⟩) (fun p i zs H' _ h => ⟨h.1 _ _ ha, h.1 _ _ hb⟩) ?_ ?_⟩
  · rintro p i zs H' x y t hp hx hy ⟨s', hz⟩ hp' ht Q' hQ
    obtain ⟨qa, eqa, hqa⟩ := hxs.at hx
    obtain ⟨rb, erb, hrb⟩ := hys.at hy
    have st := s'.trans (same_new ht (.tup [x, y]))
    have ba := bqs qa (List.mem_of_getElem? eqa)
    have bb := brs rb (List.mem_of_getElem? erb)
    refine ⟨_, rfl, _, rfl, _, _, q, qa, rfl, hs.same st, hqa.same st, bq.mono (by decide), ba.mono (by decide), trivial, fun v1 H3 s3 h1 => ?_⟩
    refine ⟨_, rfl, _, rfl, _, _, 1 - q, rb, rfl, hrest.same (st.trans s3), hrb.same (st.trans s3), brest.mono (by decide), bb.mono (by decide), trivial, fun v2 H4 s4 h2 => ?_⟩
    refine ⟨_, _, q * qa, (1 - q) * rb, rfl, h1.same s4, h2, (bq.mul ba).mono (by decide), (brest.mul bb).mono (by decide), trivial, fun v3 H5 s5 h3 => ?_⟩
    have hh : Same H' H5 := ((same_new ht (.tup [x, y])).trans s3).trans (s4.trans s5)
    refine hQ _ H5 (hh _ _ hp') ⟨same_updN hp (s'.trans hh) _, ?_⟩
    rw [List.take_add_one, List.take_add_one, eqa, erb, List.zipWith_append (by rw [List.length_take, List.length_take]; omega)]
    exact Shs.snoc (shUpdL (hh _ _ hp') h3) (Shs.updL (hh _ _ hp') (hz.same hh))
  · rintro p zs H' hp ⟨s', hz⟩ hp' hzl
    refine ⟨p, zs, rfl, .inl ⟨SqL.of hp', fun t ht => ?_⟩⟩
    rw [List.take_of_length_le (by rw [hxs.length]; omega), List.take_of_length_le (by rw [hxs.length]; omega)] at hz
    exact k _ _ ((s12.trans s').trans (same_new ht _)) ⟨t, zs, rfl, upd_same, hz.same (same_new ht _)⟩
end
end My
set_option Elab.async false
set_option linter.all false
set_option maxRecDepth 100000
set_option maxHeartbeats 4000000
namespace My
open PySem L2 MA
section
variable {P : Program} {w : World} {K : PySem.W.Frag} {mg : Str → Option Value} {base : Heap}
noncomputable def spShareL : Sp := fun vs H Q _ => ∃ t b : Int, vs = [.int t, .int b] ∧ 0 ≤ t ∧ 0 < b ∧ Bt 8000 b ∧ ∀ v H', Same H H' → ShAt H' v (Rat.divInt t b) → Q v H'
theorem ok_shareL (T : Txt2 mg) (F : FunAt K mg "_law_share" ["_law_top", "_law_bottom"] s_l_share) : Cal P w K mg base "_law_share" ["_law_top", "_law_bottom"] 1 spShareL := by
  have S := sc_l_share
  refine F.cal sc_l_share (fun vs H Q E h => ?_) (fun f cdv A outer s H vs Q E hr h => ?_)
  · obtain ⟨a, b, rfl, _⟩ := h; rfl
  obtain ⟨t, b, rfl, ht, hb, bb, k⟩ := h
  refine ⟨_, (@pss_cons _ _ _ _ _ (@ps_set _ _ (2) _ _ _ _ (by exact S.nd) (by rfl) (by first | exact Or.inl rfl | exact Or.inr rfl) (@pe_callB _ _ _ _ _ _ _ _ _ call_abs (by rfl) (by exact T.z_abs) (by exact bt_abs) (@pa_consN _ _ _ _ _ (pv 0) pa_nil (by first|rfl|decide|exact .inl rfl|exact .inr rfl|(intros; rfl))) (by first|rfl|decide|exact .inl rfl|exact .inr rfl|(intros; rfl)) (by first|rfl|decide|exact .inl rfl|exact .inr rfl|(intros; rfl)) (by first|rfl|decide|exact .inl rfl|exact .inr rfl|(intros; rfl)) (by first|rfl|decide|exact .inl rfl|exact .inr rfl|(intros; rfl))) (by first|rfl|decide|exact .inl rfl|exact .inr rfl|(intros; rfl)) (by first|rfl|decide|exact .inl rfl|exact .inr rfl|(intros; rfl))) (@pss_cons _ _ _ _ _ (@ps_set _ _ (3) _ _ _ _ (by exact S.nd) (by rfl) (by first | exact Or.inl rfl | exact Or.inr rfl) (pv 1) (by first|rfl|decide|exact .inl rfl|exact .inr rfl|(intros; rfl)) (by first|rfl|decide|exact .inl rfl|exact .inr rfl|(intros; rfl))) (@pss_cons _ _ _ _ _ (@ps_while _ _ _ _ _ _ (by exact PassesOwn.never) (@pt_cmpR _ _ _ _ _ _ _ _ op_gt (pv 3) pe_int (by exact (nomark _))) (@pss_one _ _ _ (@ps_par _ _ (2) (3) _ _ _ _ _ _ _ _ _ _ _ (by rfl) (by exact S.nd) (by rfl) (by rfl) (by decide) (by rfl) (by rfl) (@pa_consN _ _ _ _ _ (pv 3) (@pa_consN _ _ _ _ _ (@pe_op _ _ _ _ _ _ _ _ op_mod (pv 2) (pv 3)) pa_nil (by first|rfl|decide|exact .inl rfl|exact .inr rfl|(intros; rfl))) (by first|rfl|decide|exact .inl rfl|exact .inr rfl|(intros; rfl))) (by rfl) (by first|rfl|decide|exact .inl rfl|exact .inr rfl|(intros; rfl))))) (@pss_one _ _ _ (@ps_ret _ _ _ _ (@pe_tup _ _ _ _ _ (@pa_consN _ _ _ _ _ (@pe_op _ _ _ _ _ _ _ _ op_fdivB (pv 0) (pv 2)) (@pa_consN _ _ _ _ _ (@pe_op _ _ _ _ _ _ _ _ op_fdivB (pv 1) (pv 2)) pa_nil (by first|rfl|decide|exact .inl rfl|exact .inr rfl|(intros; rfl))) (by first|rfl|decide|exact .inl rfl|exact .inr rfl|(intros; rfl))))))))), ?_⟩
  refine ⟨_, rfl, _, rfl, ?_⟩
  rw [if_neg (by omega : ¬ t < 0)]
  refine ⟨_, rfl, ?_⟩
  refine while_by (fun σ H' => H' = H ∧ ∃ x y : Int, σ = [some (.int t), some (.int b), some (.int x), some (.int y)] ∧ 0 ≤ x ∧ 0 ≤ y ∧ gI x y = gI t b) (fun σ _ => match σ with | [_, _, _, some (.int y)] => y.toNat | _ => 0) ⟨rfl, _, _, rfl, ht, by omega, rfl⟩ ?_ ?_
  · rintro σ H' ⟨rfl, x, y, rfl, hx, hy, hg⟩
    refine ⟨_, rfl, _, _, rfl, rfl, _, rfl, ?_⟩
    refine ite2 (fun c => ?_) (fun c => ?_)
    · have hy0 : 0 < y := of_decide_eq_true c
      refine ⟨_, rfl, _, rfl, _, rfl, _, _, rfl, rfl, hy0, _, _, rfl, ?_⟩
      have hm := Int.emod_nonneg x (show y ≠ 0 by omega)
      have hl := Int.emod_lt_of_pos x hy0
      refine ⟨⟨rfl, _, _, rfl, hy, hm, ?_⟩, ?_⟩
      · rw [gI_step hx]; exact hg
      · show (x % y).toNat < y.toNat
        omega
    · have hy0 : y = 0 := by
        have : ¬ 0 < y := by simpa using c
        omega
      subst hy0
      rw [gI_zero hx] at hg
      subst hg
      have g0 := gI_pos_right (a := t) (b := b) (by omega)
      have gb : Bt 8000 (gI t b) := bb.gr (by omega)
      refine ⟨_, rfl, _, rfl, _, _, rfl, rfl, ⟨g0, gb⟩, _, rfl, _, rfl, _, _, rfl, rfl, ⟨g0, gb⟩, lz 2 rfl, fun p hp => ?_⟩
      have e := share_pos (t := t) hb
      exact k _ _ (same_new hp _) ⟨p, rfl, by rw [upd_same, ← e.1, ← e.2]⟩
  · rintro σ H' Q1 Q2 hQ ⟨v, e, h0, b0, h1, h2, b1, e2, h3⟩
    exact ⟨v, e, h0, b0, h1, h2, b1, e2, hQ _ _ h3⟩
noncomputable def psum (qs : List Rat) : Rat := qs.foldl (· + ·) 0
theorem psum_snoc (qs : List Rat) (q : Rat) : psum (qs ++ [q]) = psum qs + q := by unfold psum; rw [List.foldl_append]; rfl
theorem psum_take {qs : List Rat} {i : Nat} (h : i < qs.length) : psum (qs.take (i + 1)) = psum (qs.take i) + qs[i] := by
  rw [List.take_add_one, List.getElem?_eq_getElem h]
  exact psum_snoc _ _
noncomputable def faP (qs rs : List Rat) (k : Nat) : Bool := decide (psum (rs.take (k + 1)) < psum (qs.take (k + 1)))
noncomputable def faF (qs rs : List Rat) : Option Nat := ((List.range qs.length).find? (faP qs rs)).map (· + 1)
noncomputable def optV : Option Nat → V
  | none => .non
  | some k => .int (k : Int)
theorem fa_at {qs rs : List Rat} {k : Nat} (hk : k < qs.length) (h : faP qs rs k = true) (hb : ∀ j, j < k → faP qs rs j = false) : faF qs rs = some (k + 1) := by
  unfold faF
  rw [List.find?_range_eq_some.mpr ⟨h, List.mem_range.mpr hk, fun j hj => by rw [hb j hj]; rfl⟩]
  rfl
theorem fa_no {qs rs : List Rat} (hb : ∀ j, j < qs.length → faP qs rs j = false) : faF qs rs = none := by
  unfold faF
  rw [List.find?_range_eq_none.mpr fun j hj => by rw [hb j hj]; rfl]
  rfl
noncomputable def Okr (B : Nat) (qs : List Rat) : Prop := (∀ q ∈ qs, 0 ≤ q ∧ SB B q) ∧ qs.length ≤ 12 ∧ (qs.length - 1) * (2 * B + 2) + 1 ≤ 3000 ∧ B ≤ 1000 ∧ qs.length * (B + 1) + 1 ≤ 4000
end
end My
set_option Elab.async false
set_option linter.all false
set_option maxRecDepth 100000
set_option maxHeartbeats 4000000
namespace My
open PySem L2 MA
section
variable {P : Program} {w : World} {K : PySem.W.Frag} {mg : Str → Option Value} {base : Heap}
noncomputable def spFullAt : Sp := fun vs H Q _ => ∃ v u qs rs B, vs = [v, u] ∧ RuAt H v qs ∧ RuAt H u rs ∧ qs.length = rs.length ∧ Okr B qs ∧ Okr B rs ∧ ∀ H', Same H H' → Q (optV (faF qs rs)) H'
theorem ps_diff {qs rs : List Rat} {i : Nat} (h1 : i < qs.length) (h2 : i < rs.length) : psum (qs.take i) - psum (rs.take i) + (qs[i] - rs[i]) = psum (qs.take (i + 1)) - psum (rs.take (i + 1)) := by
  rw [psum_take h1, psum_take h2]
  grind
theorem num_pos {q r : Rat} : 0 < (q - r).num ↔ r < q := by
  have e : (r - q).num = - (q - r).num := by
    rw [show r - q = -(q - r) by grind]
    rfl
  have n := @Rat.num_nonneg (r - q)
  have m : 0 ≤ r - q ↔ q ≤ r := by constructor <;> intro h <;> grind
  rw [e] at n
  constructor
  · intro h
    refine Rat.not_le.mp fun z => ?_
    have := n.mpr (m.mpr z)
    omega
  · intro h
    have : ¬ 0 ≤ -(q - r).num := fun z => Rat.not_le.mpr h (m.mp (n.mp z))
    omega
theorem ok_fullat (T : Txt2 mg) (C_ask_as_many : Cal P w K mg base "ask_as_many" ["one", "other"] 1 spAsk0) (C_plus : Cal P w K mg base "plus" ["a", "b"] 2 spPlus) (C_minus : Cal P w K mg base "minus" ["a", "b"] 3 spMinus) (F : FunAt K mg "fuller_at" ["one", "other"] s_fuller_at) : Cal P w K mg base "fuller_at" ["one", "other"] 4 spFullAt := by
  have S := sc_fuller_at
  refine F.cal sc_fuller_at (fun vs H Q E h => ?_) (fun f cdv A outer s H vs Q E hr h => ?_)
  · obtain ⟨v, u, qs, rs, B, rfl, _⟩ := h; rfl
  obtain ⟨_, _, qs, rs, B, rfl, ⟨a, xs, rfl, ha, sq⟩, ⟨b, ys, rfl, hb, sr⟩, eqr, oq, orr, k⟩ := h
  have lq := sq.length
  have lr := sr.length
  refine ⟨_, (@pss_cons _ _ _ _ _ (@ps_expr _ _ _ _ (@cc _ _ _ _ _ _ _ _ _ _ (by exact C_ask_as_many) (by exact (hr.mono (by decide))) (@pa_consN _ _ _ _ _ (pv 0) (@pa_consN _ _ _ _ _ (pv 1) pa_nil (by first|rfl|decide|exact .inl rfl|exact .inr rfl|(intros; rfl))) (by first|rfl|decide|exact .inl rfl|exact .inr rfl|(intros; rfl))) (by first|rfl|decide|exact .inl rfl|exact .inr rfl|(intros; rfl)) (by first|rfl|decide|exact .inl rfl|exact .inr rfl|(intros; rfl)) (by first|rfl|decide|exact .inl rfl|exact .inr rfl|(intros; rfl)) (by first|rfl|decide|exact .inl rfl|exact .inr rfl|(intros; rfl))) (by first|rfl|decide|exact .inl rfl|exact .inr rfl|(intros; rfl))) (@pss_cons _ _ _ _ _ (@ps_set _ _ (2) _ _ _ _ (by exact S.nd) (by rfl) (by first | exact Or.inl rfl | exact Or.inr rfl) (@pe_tup _ _ _ _ _ (@pa_consN _ _ _ _ _ pe_int (@pa_consN _ _ _ _ _ pe_int pa_nil (by first|rfl|decide|exact .inl rfl|exact .inr rfl|(intros; rfl))) (by first|rfl|decide|exact .inl rfl|exact .inr rfl|(intros; rfl)))) (by first|rfl|decide|exact .inl rfl|exact .inr rfl|(intros; rfl)) (by first|rfl|decide|exact .inl rfl|exact .inr rfl|(intros; rfl))) (@pss_cons _ _ _ _ _ (@ps_for _ _ _ _ _ _ _ _ (by exact PassesOwn.never) (by rfl) (@pi_enumZ1 false false _ _ _ _ _ _ _ _ _ _ _ _ _ _ (by rfl) (by exact T.z_enumerate) (by rfl) (by exact T.z_zip) (@pa_consN _ _ _ _ _ (pv 0) (@pa_consN _ _ _ _ _ (pv 1) pa_nil (by first|rfl|decide|exact .inl rfl|exact .inr rfl|(intros; rfl))) (by first|rfl|decide|exact .inl rfl|exact .inr rfl|(intros; rfl))) (by first|rfl|decide|exact .inl rfl|exact .inr rfl|(intros; rfl)) (by first|rfl|decide|exact .inl rfl|exact .inr rfl|(intros; rfl)) (by first|rfl|decide|exact .inl rfl|exact .inr rfl|(intros; rfl)) (by first|rfl|decide|exact .inl rfl|exact .inr rfl|(intros; rfl))) (@pg_tup _ _ _ _ _ _ (by rfl) (@pgs_cons _ _ _ _ _ (@pg_name _ _ (3) _ (by exact S.nd) (by rfl) (by first | exact Or.inl rfl | exact Or.inr rfl) (by first|rfl|decide|exact .inl rfl|exact .inr rfl|(intros; rfl))) (@pgs_cons _ _ _ _ _ (@pg_tup _ _ _ _ _ _ (by rfl) (@pgs_cons _ _ _ _ _ (@pg_name _ _ (4) _ (by exact S.nd) (by rfl) (by first | exact Or.inl rfl | exact Or.inr rfl) (by first|rfl|decide|exact .inl rfl|exact .inr rfl|(intros; rfl))) (@pgs_cons _ _ _ _ _ (@pg_name _ _ (5) _ (by exact S.nd) (by rfl) (by first | exact Or.inl rfl | exact Or.inr rfl) (by first|rfl|decide|exact .inl rfl|exact .inr rfl|(intros; rfl))) pgs_nil (by first|rfl|decide|exact .inl rfl|exact .inr rfl|(intros; rfl))) (by first|rfl|decide|exact .inl rfl|exact .inr rfl|(intros; rfl))) (by first|rfl|decide|exact .inl rfl|exact .inr rfl|(intros; rfl)) (by first|rfl|decide|exact .inl rfl|exact .inr rfl|(intros; rfl))) pgs_nil (by first|rfl|decide|exact .inl rfl|exact .inr rfl|(intros; rfl))) (by first|rfl|decide|exact .inl rfl|exact .inr rfl|(intros; rfl))) (by first|rfl|decide|exact .inl rfl|exact .inr rfl|(intros; rfl)) (by first|rfl|decide|exact .inl rfl|exact .inr rfl|(intros; rfl))) (@pss_cons _ _ _ _ _ (@ps_set _ _ (2) _ _ _ _ (by exact S.nd) (by rfl) (by first | exact Or.inl rfl | exact Or.inr rfl) (@cc _ _ _ _ _ _ _ _ _ _ (by exact C_plus) (by exact (hr.mono (by decide))) (@pa_consN _ _ _ _ _ (pv 2) (@pa_consN _ _ _ _ _ (@cc _ _ _ _ _ _ _ _ _ _ (by exact C_minus) (by exact (hr.mono (by decide))) (@pa_consN _ _ _ _ _ (pv 4) (@pa_consN _ _ _ _ _ (pv 5) pa_nil (by first|rfl|decide|exact .inl rfl|exact .inr rfl|(intros; rfl))) (by first|rfl|decide|exact .inl rfl|exact .inr rfl|(intros; rfl))) (by first|rfl|decide|exact .inl rfl|exact .inr rfl|(intros; rfl)) (by first|rfl|decide|exact .inl rfl|exact .inr rfl|(intros; rfl)) (by first|rfl|decide|exact .inl rfl|exact .inr rfl|(intros; rfl)) (by first|rfl|decide|exact .inl rfl|exact .inr rfl|(intros; rfl))) pa_nil (by first|rfl|decide|exact .inl rfl|exact .inr rfl|(intros; rfl))) (by first|rfl|decide|exact .inl rfl|exact .inr rfl|(intros; rfl))) (by first|rfl|decide|exact .inl rfl|exact .inr rfl|(intros; rfl)) (by first|rfl|decide|exact .inl rfl|exact .inr rfl|(intros; rfl)) (by first|rfl|decide|exact .inl rfl|exact .inr rfl|(intros; rfl)) (by first|rfl|decide|exact .inl rfl|exact .inr rfl|(intros; rfl))) (by first|rfl|decide|exact .inl rfl|exact .inr rfl|(intros; rfl)) (by first|rfl|decide|exact .inl rfl|exact .inr rfl|(intros; rfl))) (@pss_one _ _ _ (@ps_if _ _ _ _ _ _ _ _ (@pt_cmpR _ _ _ _ _ _ _ _ op_gt (@pe_ix _ _ _ _ _ _ _ ix_tup (pv 2) pe_int (by exact (fun _ _ => rfl))) pe_int (by exact (nomark _))) (@pss_one _ _ _ (@ps_ret _ _ _ _ (pv 3))) pss_nil))) (by first|rfl|decide|exact .inl rfl|exact .inr rfl|(intros; rfl))) (@pss_one _ _ _ (@ps_ret _ _ _ _ pe_non))))), ?_⟩
  refine ⟨_, rfl, _, rfl, a, b, xs, ys, rfl, ha, hb, (by omega), ?_⟩
  have el : xs.length = ys.length := by omega
  refine ⟨lz 2 rfl, fun t0 ht0 => ?_⟩
  have s0 := same_new ht0 (.tup [.int 0, .int 1])
  have e0 : psum (qs.take 0) - psum (rs.take 0) = 0 := by show (0 : Rat) - 0 = 0; grind
  have z0 : ShAt (upd H t0 (.tup [.int 0, .int 1])) (.ref t0) (psum (qs.take 0) - psum (rs.take 0)) := by rw [e0]; exact ⟨t0, rfl, upd_same⟩
  refine ⟨_, rfl, _, rfl, a, b, rfl, ⟨xs, SqB.t (s0 _ _ ha)⟩, ⟨ys, SqB.t (s0 _ _ hb)⟩, for_enumZ (xs := xs) (ys := ys) (fun i σ H' => (∃ m o3 o4 o5, σ = [some (.ref a), some (.ref b), some m, o3, o4, o5] ∧ ShAt H' m (psum (qs.take i) - psum (rs.take i))) ∧ Same H H' ∧ SB (i * (2 * B + 2) + 1) (psum (qs.take i) - psum (rs.take i)) ∧ ∀ j, j < i → faP qs rs j = false) el
    ⟨⟨_, _, _, _, rfl, z0⟩, s0, (by rw [e0]; exact SB.mono (m := 1) (q := 0) ⟨by decide, by decide⟩ (by omega)), fun j hj => by omega⟩ (fun i σ H' _ h => ⟨SqB.t (h.2.1 _ _ ha), SqB.t (h.2.1 _ _ hb)⟩) ?_ ?_⟩
  · rintro i x y p q σ H' hx hy ⟨⟨m, o3, o4, o5, rfl, hm⟩, s', bm, hno⟩ hp hq hpq
    obtain ⟨qa, eqa, hqa⟩ := sq.at hx
    obtain ⟨rb, erb, hrb⟩ := sr.at hy
    obtain ⟨i1, e1⟩ := List.getElem?_eq_some_iff.mp eqa
    obtain ⟨i2, e2⟩ := List.getElem?_eq_some_iff.mp erb
    have ba := (oq.1 qa (List.mem_of_getElem? eqa)).2
    have bb := (orr.1 rb (List.mem_of_getElem? erb)).2
    have step := ps_diff i1 i2
    rw [e1, e2] at step
    have s1 := same_new hp (.tup [x, y])
    have hq1 : (upd H' p (.tup [x, y])) q = none := by rw [upd_ne (Ne.symm hpq)]; exact hq
    have s2 := same_new hq1 (.tup [.int (1 + (i : Int)), .ref p])
    have s12 := s1.trans s2
    have hp2 := s2 _ _ (upd_same (H := H') (a := p) (o := .tup [x, y]))
    have B1 := oq.2.2.2.1
    have lim : i * (2 * B + 2) + 1 ≤ 3000 := by
      have := Nat.mul_le_mul_right (2 * B + 2) (show i ≤ qs.length - 1 by omega)
      have := oq.2.2.1
      omega
    have bd : SB (2 * B + 1) (qa - rb) := (ba.sub bb).mono (by omega)
    refine ⟨q, _, rfl, SqT.of upd_same, rfl, _, _, rfl, _, _, rfl, p, _, rfl, SqT.of hp2, rfl, _, _, rfl, _, _, rfl, rfl, rfl, ?_⟩
    refine ⟨_, rfl, _, rfl, _, rfl, _, _, qa, rb, rfl, hqa.same (s'.trans s12), hrb.same (s'.trans s12), ba.mono (by omega), bb.mono (by omega), trivial, fun v3 H3 s3 h3 => ?_⟩
    refine ⟨_, _, _, qa - rb, rfl, hm.same (s12.trans s3), h3, bm.mono lim, bd.mono (by omega), trivial, fun v4 H4 s4 h4 => ?_⟩
    have hs : Same H H4 := (s'.trans s12).trans (s3.trans s4)
    dsimp only at h4
    rw [step] at h4
    obtain ⟨t4, rfl, ht4⟩ := h4
    refine ⟨_, rfl, t4, _, _, _, rfl, rfl, SqT.of ht4, rfl, _, _, rfl, rfl, _, rfl, ?_⟩
    refine ite2 (fun c => ?_) (fun c => ?_)
    · have eo := fa_at i1 (decide_eq_true (num_pos.mp (of_decide_eq_true c))) hno
      have := k _ hs
      rw [eo] at this
      refine ⟨_, rfl, ?_⟩
      have e : (1 : Int) + (i : Int) = ((i + 1 : Nat) : Int) := by omega
      rw [e]
      exact this
    · refine ⟨⟨_, _, _, _, rfl, t4, rfl, ht4⟩, hs, ?_, fun j hj => ?_⟩
      · rw [← step]
        refine (bm.add bd).mono ?_
        rw [Nat.add_mul]
        omega
      · by_cases ej : j = i
        · subst ej
          exact decide_eq_false fun z => c (decide_eq_true (num_pos.mpr z))
        · exact hno j (by omega)
  · rintro σ H' ⟨⟨m, o3, o4, o5, rfl, hm⟩, s', bm, hno⟩
    have e : faF qs rs = none := fa_no fun j hj => hno j (by omega)
    have := k _ s'
    rw [e] at this
    exact this
end
end My
set_option Elab.async false
set_option linter.all false
set_option maxRecDepth 100000
set_option maxHeartbeats 4000000
namespace My
open PySem L2 MA
noncomputable def evF (n : Nat) : List Int := (List.range n).map fun (i : Nat) => 2 * ((n : Int) - 1 - i)
noncomputable def PartAt (H : Hp) (v : V) (n : Nat) : Option Nat → Prop
  | none => v = .non
  | some k => ∃ p t, v = .ref p ∧ H p = some (.tup [.ref t, .int (k : Int)]) ∧ H t = some (.tup (iv (evF n)))
section
variable {P : Program} {w : World} {K : PySem.W.Frag} {mg : Str → Option Value} {base : Heap}
noncomputable def spParting : Sp := fun vs H Q _ => ∃ v u qs rs B, vs = [v, u] ∧ RuAt H v qs ∧ RuAt H u rs ∧ qs.length = rs.length ∧ Okr B qs ∧ Okr B rs ∧ ∀ v H', Same H H' → PartAt H' v qs.length (faF qs rs) → Q v H'
theorem ok_parting (T : Txt2 mg) (C_fuller_at : Cal P w K mg base "fuller_at" ["one", "other"] 4 spFullAt) (F : FunAt K mg "parting" ["one", "other"] s_parting) : Cal P w K mg base "parting" ["one", "other"] 5 spParting := by
  have S := sc_parting
  refine F.cal sc_parting (fun vs H Q E h => ?_) (fun f cdv A outer s H vs Q E hr h => ?_)
  · obtain ⟨v, u, qs, rs, B, rfl, _⟩ := h; rfl
  obtain ⟨_, _, qs, rs, B, rfl, ⟨a, xs, rfl, ha, sq⟩, hu, eqr, oq, orr, k⟩ := h
  have lq := sq.length
  refine ⟨_, (@pss_cons _ _ _ _ _ (@ps_set _ _ (2) _ _ _ _ (by exact S.nd) (by rfl) (by first | exact Or.inl rfl | exact Or.inr rfl) (@cc _ _ _ _ _ _ _ _ _ _ (by exact C_fuller_at) (by exact (hr.mono (by decide))) (@pa_consN _ _ _ _ _ (pv 0) (@pa_consN _ _ _ _ _ (pv 1) pa_nil (by first|rfl|decide|exact .inl rfl|exact .inr rfl|(intros; rfl))) (by first|rfl|decide|exact .inl rfl|exact .inr rfl|(intros; rfl))) (by first|rfl|decide|exact .inl rfl|exact .inr rfl|(intros; rfl)) (by first|rfl|decide|exact .inl rfl|exact .inr rfl|(intros; rfl)) (by first|rfl|decide|exact .inl rfl|exact .inr rfl|(intros; rfl)) (by first|rfl|decide|exact .inl rfl|exact .inr rfl|(intros; rfl))) (by first|rfl|decide|exact .inl rfl|exact .inr rfl|(intros; rfl)) (by first|rfl|decide|exact .inl rfl|exact .inr rfl|(intros; rfl))) (@pss_cons _ _ _ _ _ (@ps_if _ _ _ _ _ _ _ _ (@pt_cmpR _ _ _ _ _ _ _ _ op_isN (pv 2) pe_non (by exact (nomark _))) (@pss_one _ _ _ (@ps_ret _ _ _ _ pe_non)) pss_nil) (@pss_one _ _ _ (@ps_ret _ _ _ _ (@pe_tup _ _ _ _ _ (@pa_consN _ _ _ _ _ (@pe_callTy _ _ _ _ _ _ _ _ _ call_tuple_of (by rfl) (by exact T.z_tuple) (by exact bt_tuple) (@pa_consN _ _ _ _ _ (@pe_comp0 _ _ _ _ _ _ _ _ _ _ _ (["rank"]) (fun _ => [none]) (by rfl) (by exact (fun _ _ h => h)) (by decide +kernel) (by rfl) (by decide +kernel) (by decide +kernel) (by exact Sees.none1) (@pi_revR _ _ _ _ _ _ _ _ (by rfl) (by exact T.z_reversed) (by rfl) (by exact T.z_range) (@pa_consN _ _ _ _ _ (@pe_callB _ _ _ _ _ _ _ _ _ call_len_seq (by rfl) (by exact T.z_len) (by exact bt_len) (@pa_consN _ _ _ _ _ (pv 0) pa_nil (by first|rfl|decide|exact .inl rfl|exact .inr rfl|(intros; rfl))) (by first|rfl|decide|exact .inl rfl|exact .inr rfl|(intros; rfl)) (by first|rfl|decide|exact .inl rfl|exact .inr rfl|(intros; rfl)) (by first|rfl|decide|exact .inl rfl|exact .inr rfl|(intros; rfl)) (by first|rfl|decide|exact .inl rfl|exact .inr rfl|(intros; rfl))) pa_nil (by first|rfl|decide|exact .inl rfl|exact .inr rfl|(intros; rfl))) (by first|rfl|decide|exact .inl rfl|exact .inr rfl|(intros; rfl)) (by first|rfl|decide|exact .inl rfl|exact .inr rfl|(intros; rfl))) (fun _ _ _ _ _ => @pg_name _ _ (0) _ (by exact (show (["rank"] : List Str).Nodup by decide +kernel)) (by rfl) (by first | exact Or.inl rfl | exact Or.inr rfl) (by first|rfl|decide|exact .inl rfl|exact .inr rfl|(intros; rfl))) (fun _ _ _ _ _ => pts_nil) (fun _ _ _ _ _ => (@pe_op _ _ _ _ _ _ _ _ op_mul pe_int (pv 0))) (by first|rfl|decide|exact .inl rfl|exact .inr rfl|(intros; rfl))) pa_nil (by first|rfl|decide|exact .inl rfl|exact .inr rfl|(intros; rfl))) (by first|rfl|decide|exact .inl rfl|exact .inr rfl|(intros; rfl)) (by first|rfl|decide|exact .inl rfl|exact .inr rfl|(intros; rfl)) (by first|rfl|decide|exact .inl rfl|exact .inr rfl|(intros; rfl)) (by first|rfl|decide|exact .inl rfl|exact .inr rfl|(intros; rfl))) (@pa_consN _ _ _ _ _ (pv 2) pa_nil (by first|rfl|decide|exact .inl rfl|exact .inr rfl|(intros; rfl))) (by first|rfl|decide|exact .inl rfl|exact .inr rfl|(intros; rfl)))))))), ?_⟩
  refine ⟨_, rfl, _, rfl, _, _, qs, rs, B, rfl, ⟨a, xs, rfl, ha, sq⟩, hu, eqr, oq, orr, fun H1 s1 => ?_⟩
  have l12 := oq.2.1
  cases ef : faF qs rs with
  | none =>
    rw [ef] at k
    exact ⟨_, rfl, rfl, _, rfl, iteT (k _ _ s1 rfl)⟩
  | some n =>
    rw [ef] at k
    refine ⟨_, rfl, rfl, _, rfl, iteF ?_⟩
    refine ⟨_, rfl, a, _, rfl, .inr (SqT.of (s1 _ _ ha)), qs.length, by rw [lq], by omega, comp_revR (n := qs.length) (fs := []) (fun acc i ys H' => Same H1 H' ∧ ys = iv ((List.range i).map fun (j : Nat) => 2 * ((qs.length : Int) - 1 - j))) (by omega) ?_ ?_ ?_⟩
    · intro acc hacc
      exact ⟨same_new hacc _, rfl⟩
    · rintro acc i ys H' hacc hi hl ⟨s', rfl⟩ hH' Q' hQ
      refine ⟨_, rfl, _, _, rfl, rfl, .inl ⟨by omega, by omega⟩, ?_⟩
      refine hQ _ H' hH' ⟨same_upd s' hacc, ?_⟩
      rw [map_range_succ]
      simp [iv]
    · rintro acc ys H' hacc ⟨s', rfl⟩ hH' hl
      refine ⟨acc, _, rfl, .inl ⟨SqL.of hH', fun t ht => ?_⟩⟩
      have st := same_new ht (.tup (iv ((List.range qs.length).map fun (j : Nat) => 2 * ((qs.length : Int) - 1 - j))))
      refine ⟨_, rfl, lz 2 rfl, fun p hp => ?_⟩
      have sp := same_new hp (.tup [.ref t, .int (n : Int)])
      exact k _ _ (s1.trans (s'.trans (st.trans sp))) ⟨p, t, rfl, upd_same, sp _ _ upd_same⟩
end
end My
set_option Elab.async false
set_option linter.all false
set_option maxRecDepth 100000
set_option maxHeartbeats 4000000
namespace My
open PySem L2 MA
theorem PenZ.ne {K : PySem.W.Frag} {H : Hp} {p q : Addr} {n : Nat} (h : PenZ K H p n) (hq : H q = none) : q ≠ p := fun e => by
  obtain ⟨c, ns, a, x, h1, _⟩ := h
  rw [← e, hq] at h1
  cases h1
theorem PenZ.keepT {K : PySem.W.Frag} {H H' : Hp} {p b : Addr} {n : Nat} {xs : List V} (h : PenZ K H p n) (x : SameY p H H') (hb : H b = some (.tup xs)) : H' b = some (.tup xs) := x.all b _ hb (by
  rintro rfl
  obtain ⟨c, ns, a, l, h1, _⟩ := h
  rw [hb] at h1
  cases h1)
theorem PenZ.neL {K : PySem.W.Frag} {H : Hp} {p b : Addr} {n : Nat} {ns : List Int} (h : PenZ K H p n) (hb : H b = some (.lst (iv ns))) : b ≠ p := by
  rintro rfl
  obtain ⟨c, ms, a, l, h1, _⟩ := h
  rw [hb] at h1
  exact not_pen (HO.lst.inj (Option.some.inj h1)).symm
theorem PenZ.keepL {K : PySem.W.Frag} {H H' : Hp} {p b : Addr} {n : Nat} {ns : List Int} (h : PenZ K H p n) (x : SameY p H H') (hb : H b = some (.lst (iv ns))) : H' b = some (.lst (iv ns)) := x.all b _ hb (h.neL hb)
theorem penZ_upd {K : PySem.W.Frag} {H H2 : Hp} {p acc : Addr} {n m : Nat} (hn : H acc = none) (hp : PenZ K H p n) (x : SameY p H H2) (hp2 : PenZ K H2 p m) (o : HO) : PenZ K (upd H2 acc o) p m ∧ SameY p H (upd H2 acc o) := by
  have pa := hp.ne hn
  obtain ⟨c, ns, a, l, h1, h2, h3, h4⟩ := hp
  obtain ⟨c2, ns2, a2, l2, g1, g2, g3, g4⟩ := hp2
  obtain ⟨a', l', e'⟩ := x.pen c a l h1
  have ec : c2 = c := by
    rw [g1] at e'
    have := HO.lst.inj (Option.some.inj e')
    simp [penV] at this
    exact this.1
  subst ec
  refine ⟨⟨c2, ns, a2, l2, ?_, ?_, g3, g4⟩, ⟨fun b o' e hb => ?_, fun c' a'' l'' e => ?_⟩⟩
  · rw [upd_ne (Ne.symm pa)]; exact g1
  · rcases sq_ne h2 h1 with ⟨o', e, ne, f⟩ | f
    · refine f _ ?_
      rw [upd_ne (fun z => by rw [z, hn] at e; cases e)]
      exact x.all _ _ e ne
    · exact f _
  · rw [upd_ne (fun z => by rw [z, hn] at e; cases e)]
    exact x.all _ _ e hb
  · obtain ⟨a3, l3, e3⟩ := x.pen c' a'' l'' e
    exact ⟨a3, l3, by rw [upd_ne (Ne.symm pa)]; exact e3⟩
theorem ShAt.keepZ {K : PySem.W.Frag} {H H' : Hp} {p : Addr} {n : Nat} {v : V} {q : Rat} (hp : PenZ K H p n) (x : SameY p H H') (h : ShAt H v q) : ShAt H' v q := let ⟨a, e, h⟩ := h; ⟨a, e, hp.keepT x h⟩
theorem Shs.keepZ {K : PySem.W.Frag} {H H' : Hp} {p : Addr} {n : Nat} (hp : PenZ K H p n) (x : SameY p H H') : ∀ {xs : List V} {qs : List Rat}, Shs H xs qs → Shs H' xs qs
  | _, _, .nil => .nil
  | _, _, .cons r t => .cons (ShAt.keepZ hp x r) (Shs.keepZ hp x t)
theorem RuAt.keepZ {K : PySem.W.Frag} {H H' : Hp} {p : Addr} {n : Nat} {v : V} {qs : List Rat} (hp : PenZ K H p n) (x : SameY p H H') (h : RuAt H v qs) : RuAt H' v qs := let ⟨a, xs, e, h1, h2⟩ := h; ⟨a, xs, e, hp.keepT x h1, Shs.keepZ hp x h2⟩
theorem ixN_lt {n j : Nat} (h : j < n) : ixN n (j : Int) = some j := by
  unfold ixN
  simp only [Int.natCast_nonneg, if_true, decide_true, Int.toNat_natCast]
  first
  | rw [if_pos h]
  | (split <;> first | rfl | omega)
structure Wts (n : Nat) (ws : List Int) : Prop where
  len : ws.length = n
  rng : ∀ x ∈ ws, 0 ≤ x ∧ x ≤ 960
  pos : 0 < ws.sum
  top : ws.sum ≤ 960
theorem sum_le {ws : List Int} {B : Nat} : (∀ x ∈ ws, 0 ≤ x ∧ x ≤ (B : Int)) → 0 ≤ ws.sum ∧ ws.sum ≤ ((ws.length * B : Nat) : Int) := by
  intro h
  induction ws with
  | nil => simp
  | cons x r ih =>
    have h1 := h x (by simp)
    have h2 := ih fun y hy => h y (by simp [hy])
    rw [List.sum_cons, List.length_cons, Nat.add_mul]
    omega
section
variable {P : Program} {w : World} {K : PySem.W.Frag} {mg : Str → Option Value} {base : Heap}
noncomputable def spWeights (K : PySem.W.Frag) : Sp := fun vs H Q _ => ∃ (p : Addr) (n m : Nat), vs = [.ref p, .int (n : Int)] ∧ PenZ K H p m ∧ m + 14 ≤ 100000 ∧ 1 ≤ n ∧ n ≤ 12 ∧ ∀ (l : Addr) (ws : List Int) (H' : Hp), Wts n ws → H' l = some (.lst (iv ws)) → PenZ K H' p (m + 14) → SameY p H H' → Q (.ref l) H'
theorem ok_weights (T : Txt2 mg) (C_l_take : Cal P w K mg base "_law_take" ["_law_pen_here", "_law_many"] 1 (spTakeZ K)) (F : FunAt K mg "_law_weights" ["_law_pen_here", "_law_boxes"] s_l_weights) : Cal P w K mg base "_law_weights" ["_law_pen_here", "_law_boxes"] 2 (spWeights K) := by
  have S := sc_l_weights
  refine F.cal sc_l_weights (fun vs H Q E h => ?_) (fun f cdv A outer s H vs Q E hr h => ?_)
  · obtain ⟨p, n, m, rfl, _⟩ := h; rfl
  obtain ⟨p, n, m, rfl, hp, hm, n1, n12, k⟩ := h
  refine ⟨_, (@pss_cons _ _ _ _ _ (@ps_set _ _ (2) _ _ _ _ (by exact S.nd) (by rfl) (by first | exact Or.inl rfl | exact Or.inr rfl) (@pe_ix _ _ _ _ _ _ _ ix_tup (@pe_tup _ _ _ _ _ (@pa_consN _ _ _ _ _ pe_int (@pa_consN _ _ _ _ _ pe_int (@pa_consN _ _ _ _ _ pe_int (@pa_consN _ _ _ _ _ pe_int pa_nil (by first|rfl|decide|exact .inl rfl|exact .inr rfl|(intros; rfl))) (by first|rfl|decide|exact .inl rfl|exact .inr rfl|(intros; rfl))) (by first|rfl|decide|exact .inl rfl|exact .inr rfl|(intros; rfl))) (by first|rfl|decide|exact .inl rfl|exact .inr rfl|(intros; rfl)))) (@cc _ _ _ _ _ _ _ _ _ _ (by exact C_l_take) (by exact (hr.mono (by decide))) (@pa_consN _ _ _ _ _ (pv 0) (@pa_consN _ _ _ _ _ pe_int pa_nil (by first|rfl|decide|exact .inl rfl|exact .inr rfl|(intros; rfl))) (by first|rfl|decide|exact .inl rfl|exact .inr rfl|(intros; rfl))) (by first|rfl|decide|exact .inl rfl|exact .inr rfl|(intros; rfl)) (by first|rfl|decide|exact .inl rfl|exact .inr rfl|(intros; rfl)) (by first|rfl|decide|exact .inl rfl|exact .inr rfl|(intros; rfl)) (by first|rfl|decide|exact .inl rfl|exact .inr rfl|(intros; rfl))) (by exact (fun _ _ => rfl))) (by first|rfl|decide|exact .inl rfl|exact .inr rfl|(intros; rfl)) (by first|rfl|decide|exact .inl rfl|exact .inr rfl|(intros; rfl))) (@pss_cons _ _ _ _ _ (@ps_set _ _ (3) _ _ _ _ (by exact S.nd) (by rfl) (by first | exact Or.inl rfl | exact Or.inr rfl) (@cc _ _ _ _ _ _ _ _ _ _ (by exact C_l_take) (by exact (hr.mono (by decide))) (@pa_consN _ _ _ _ _ (pv 0) (@pa_consN _ _ _ _ _ (pv 1) pa_nil (by first|rfl|decide|exact .inl rfl|exact .inr rfl|(intros; rfl))) (by first|rfl|decide|exact .inl rfl|exact .inr rfl|(intros; rfl))) (by first|rfl|decide|exact .inl rfl|exact .inr rfl|(intros; rfl)) (by first|rfl|decide|exact .inl rfl|exact .inr rfl|(intros; rfl)) (by first|rfl|decide|exact .inl rfl|exact .inr rfl|(intros; rfl)) (by first|rfl|decide|exact .inl rfl|exact .inr rfl|(intros; rfl))) (by first|rfl|decide|exact .inl rfl|exact .inr rfl|(intros; rfl)) (by first|rfl|decide|exact .inl rfl|exact .inr rfl|(intros; rfl))) (@pss_cons _ _ _ _ _ (@ps_comp _ _ _ _ _ _ _ _ _ _ _ _ _ _ _ (4) _ (by exact S.nd) (by rfl) (by first | exact Or.inl rfl | exact Or.inr rfl) (by rfl) (by exact (fun _ _ h => h)) (by decide +kernel) (by rfl) (by decide +kernel) (by exact hfr_of rfl) (by exact Sees.frees ["_law_rank"] [("_law_pen_here", 0), ("_law_most", 2)] (fr_cons ⟨rfl, rfl⟩ (fr_cons ⟨rfl, rfl⟩ fr_nil))) (@pi_range1 _ _ _ _ _ _ (by rfl) (by exact T.z_range) (@pa_consN _ _ _ _ _ (pv 1) pa_nil (by first|rfl|decide|exact .inl rfl|exact .inr rfl|(intros; rfl))) (by first|rfl|decide|exact .inl rfl|exact .inr rfl|(intros; rfl))) (fun _ _ _ _ _ => @pg_name _ _ (0) _ (by exact (show (["_law_rank", "_law_pen_here", "_law_most"] : List Str).Nodup by decide +kernel)) (by rfl) (by first | exact Or.inl rfl | exact Or.inr rfl) (by first|rfl|decide|exact .inl rfl|exact .inr rfl|(intros; rfl))) (fun _ _ _ _ _ => pts_nil) (fun _ _ _ _ _ => (@cc _ _ _ _ _ _ _ _ _ _ (by exact C_l_take) (by exact (hr.mono (by decide))) (@pa_consN _ _ _ _ _ (pv 1) (@pa_consN _ _ _ _ _ (pv 2) pa_nil (by first|rfl|decide|exact .inl rfl|exact .inr rfl|(intros; rfl))) (by first|rfl|decide|exact .inl rfl|exact .inr rfl|(intros; rfl))) (by first|rfl|decide|exact .inl rfl|exact .inr rfl|(intros; rfl)) (by first|rfl|decide|exact .inl rfl|exact .inr rfl|(intros; rfl)) (by first|rfl|decide|exact .inl rfl|exact .inr rfl|(intros; rfl)) (by first|rfl|decide|exact .inl rfl|exact .inr rfl|(intros; rfl)))) (by first|rfl|decide|exact .inl rfl|exact .inr rfl|(intros; rfl)) (by first|rfl|decide|exact .inl rfl|exact .inr rfl|(intros; rfl)) (by first|rfl|decide|exact .inl rfl|exact .inr rfl|(intros; rfl))) (@pss_cons _ _ _ _ _ (@ps_if _ _ _ _ _ _ _ _ (@pt_cmpR _ _ _ _ _ _ _ _ op_eq (@pe_callB _ _ _ _ _ _ _ _ _ (call_sum0 (by rfl)) (by rfl) (by exact T.z_sum) (by exact bt_sum) (@pa_consN _ _ _ _ _ (pv 4) pa_nil (by first|rfl|decide|exact .inl rfl|exact .inr rfl|(intros; rfl))) (by first|rfl|decide|exact .inl rfl|exact .inr rfl|(intros; rfl)) (by first|rfl|decide|exact .inl rfl|exact .inr rfl|(intros; rfl)) (by first|rfl|decide|exact .inl rfl|exact .inr rfl|(intros; rfl)) (by first|rfl|decide|exact .inl rfl|exact .inr rfl|(intros; rfl))) pe_int (by exact (nomark _))) (@pss_one _ _ _ (@ps_asg _ _ _ _ _ _ pe_int (@pg_sub _ _ _ _ _ _ _ (pv 4) (pv 3) set_list (by first|rfl|decide|exact .inl rfl|exact .inr rfl|(intros; rfl))) (by first|rfl|decide|exact .inl rfl|exact .inr rfl|(intros; rfl)) (by first|rfl|decide|exact .inl rfl|exact .inr rfl|(intros; rfl)) (by first|rfl|decide|exact .inl rfl|exact .inr rfl|(intros; rfl)))) pss_nil) (@pss_one _ _ _ (@ps_ret _ _ _ _ (pv 4))))))), ?_⟩
  refine ⟨lz 4 rfl, fun t ht => ⟨_, rfl, p, _, _, rfl, hp.same (same_new ht _), by omega, by omega, by omega, fun r H1 r0 r1 p1 x1 => ?_⟩⟩
  have st := same_new ht (.tup [.int 10, .int 3, .int 2, .int 81])
  have ht1 := (hp.same st).keepT x1 upd_same
  obtain ⟨most, hmost, mo1, mo2⟩ : ∃ most : Int, atI ([.int 10, .int 3, .int 2, .int 81] : List V) r = some (.int most) ∧ 2 ≤ most ∧ most ≤ 81 := by
    rcases (show r = 0 ∨ r = 1 ∨ r = 2 ∨ r = 3 by omega) with rfl | rfl | rfl | rfl
    · exact ⟨10, rfl, by decide, by decide⟩
    · exact ⟨3, rfl, by decide, by decide⟩
    · exact ⟨2, rfl, by decide, by decide⟩
    · exact ⟨81, rfl, by decide, by decide⟩
  refine ⟨t, _, _, _, rfl, rfl, SqT.of ht1, hmost, ?_⟩
  refine ⟨_, rfl, _, rfl, p, _, _, rfl, p1, by omega, by omega, by omega, fun spot H2 sp0 sp1 p2 x2 => ?_⟩
  have x12 := ((Same.y st).trans x1).trans x2
  refine ⟨_, rfl, _, rfl, by omega, by omega, comp_rng (n := (n : Int).toNat) (lo := 0) (fs := [some (.ref p), some (.int most)]) (fun acc i ys H' => PenZ K H' p (m + 2 + i) ∧ SameY p H2 H' ∧ ∃ bs : List Int, ys = iv bs ∧ ∀ b ∈ bs, 0 ≤ b ∧ b ≤ ((80 : Nat) : Int)) (by omega) ?_ ?_ ?_⟩
  · intro acc hacc
    exact ⟨p2.same (same_new hacc _), (Same.y (same_new hacc _)), [], rfl, by simp⟩
  · rintro acc i ys H' hacc hi hl ⟨p', x', bs, rfl, hb⟩ hacc' Q' hQ
    refine ⟨_, rfl, _, rfl, p, _, _, rfl, p', by omega, by omega, by omega, fun r H5 r0 r1 p5 x5 => ?_⟩
    obtain ⟨u1, u2⟩ := penZ_upd hacc p2 (x'.trans x5) p5 (.lst (iv bs ++ [.int r]))
    refine hQ _ H5 (x5.all _ _ hacc' (p2.ne hacc)) ⟨u1, u2, bs ++ [r], by simp, fun b hbm => ?_⟩
    rcases List.mem_append.mp hbm with q | q
    · exact hb b q
    · have : b = r := by simpa using q
      omega
  rintro l ys H3 hl ⟨p3, x3, bs, rfl, hb⟩ hl' hlen
  have hbl : bs.length = n := by simpa using hlen
  have sm := sum_le hb
  have sm2 : bs.length * 80 ≤ 960 := by omega
  refine ⟨_, rfl, l, bs, rfl, hl', rfl, _, rfl, ?_⟩
  refine ite2 (fun c => ?_) (fun c => ?_)
  · obtain ⟨sn, rfl⟩ : ∃ sn : Nat, spot = (sn : Int) := ⟨spot.toNat, by omega⟩
    have hsn : sn < bs.length := by omega
    refine ⟨_, rfl, _, rfl, l, _, _, sn, rfl, rfl, hl', ixN_lt (by simpa using hsn), ?_⟩
    have ew : (iv bs).set sn (.int 1) = iv (bs.set sn 1) := by simp
    rw [ew]
    obtain ⟨u1, u2⟩ := penZ_upd hl p2 x3 p3 (.lst (iv (bs.set sn 1)))
    have e0 : bs.sum = 0 := V.int.inj (of_decide_eq_true c)
    have hz : bs.sum + 1 = (bs.set sn 1).sum := by
      have z : bs[sn] = 0 := by
        have : ∀ (cs : List Int) (j : Nat) (hj : j < cs.length), (∀ x ∈ cs, 0 ≤ x ∧ x ≤ ((80 : Nat) : Int)) → cs.sum = 0 → cs[j] = 0 := by
          intro cs
          induction cs with
          | nil => intro j hj; exact absurd hj (by simp)
          | cons x r ih =>
            intro j hj h1 h2
            have hx := h1 x (by simp)
            have hr := sum_le (ws := r) (B := 80) fun y hy => h1 y (by simp [hy])
            rw [List.sum_cons] at h2
            cases j with
            | zero => simp; omega
            | succ j => exact ih j (by simpa using hj) (fun y hy => h1 y (by simp [hy])) (by omega)
        exact this bs sn hsn hb e0
      have : ∀ (cs : List Int) (j : Nat) (hj : j < cs.length), cs[j] = 0 → (cs.set j 1).sum = cs.sum + 1 := by
        intro cs
        induction cs with
        | nil => intro j hj; exact absurd hj (by simp)
        | cons x r ih =>
          intro j hj h1
          cases j with
          | zero =>
            have : x = 0 := by simpa using h1
            subst this
            simp; omega
          | succ j =>
            have := ih j (by simpa using hj) (by simpa using h1)
            simp [this]; omega
      exact (this bs sn hsn z).symm
    refine ⟨_, rfl, k l (bs.set sn 1) _ ⟨by simp [hbl], fun x hx => ?_, by omega, by omega⟩ upd_same (u1.mono (by omega)) (x12.trans u2)⟩
    rcases List.mem_or_eq_of_mem_set hx with q | q
    · have := hb x q; omega
    · omega
  · have e0 : bs.sum ≠ 0 := fun z => c (by rw [z]; rfl)
    exact ⟨_, rfl, k l bs _ ⟨hbl, fun x hx => by have := hb x hx; omega, by omega, by omega⟩ hl' (p3.mono (by omega)) (x12.trans x3)⟩
end
end My
set_option Elab.async false
set_option linter.all false
set_option maxRecDepth 100000
set_option maxHeartbeats 4000000
namespace My
open PySem L2 MA
theorem sum_set {l : List Int} {i : Nat} (hi : i < l.length) (v : Int) : (l.set i v).sum = l.sum + (v - l[i]) := by
  induction l generalizing i with
  | nil => simp at hi
  | cons x r ih =>
    cases i with
    | zero => simp; omega
    | succ i =>
      have := ih (i := i) (by simpa using hi)
      simp [this]; omega
theorem le_sum : ∀ {ws : List Int}, (∀ x ∈ ws, 0 ≤ x) → ∀ x ∈ ws, x ≤ ws.sum
  | [], _, x, hx => by simp at hx
  | y :: r, h, x, hx => by
    have hs : 0 ≤ r.sum := by
      have : ∀ {cs : List Int}, (∀ z ∈ cs, 0 ≤ z) → 0 ≤ cs.sum := by
        intro cs
        induction cs with
        | nil => simp
        | cons a b ih =>
          intro h
          have := ih fun z hz => h z (by simp [hz])
          have := h a (by simp)
          rw [List.sum_cons]; omega
      exact this fun z hz => h z (by simp [hz])
    rw [List.sum_cons]
    rcases List.mem_cons.mp hx with rfl | hx
    · omega
    · have := le_sum (ws := r) (fun z hz => h z (by simp [hz])) x hx
      have := h y (by simp)
      omega
theorem Wts.move {n : Nat} {ws : List Int} (h : Wts n ws) {i j : Nat} (hi : i < ws.length) (hj : j < ws.length) {d : Int} (h0 : 0 ≤ d) (h1 : d ≤ ws[i]) : Wts n ((ws.set i (ws[i] - d)).set j ((ws.set i (ws[i] - d)).getD j 0 + d)) := by
  have hj2 : j < (ws.set i (ws[i] - d)).length := by simpa using hj
  have e1 := sum_set hi (ws[i] - d)
  have e2 := sum_set hj2 ((ws.set i (ws[i] - d)).getD j 0 + d)
  rw [getD_of hj2] at e2 ⊢
  have n1 : ∀ x ∈ ws.set i (ws[i] - d), 0 ≤ x := fun x hx => by
    rcases List.mem_or_eq_of_mem_set hx with q | q
    · exact (h.rng x q).1
    · omega
  have n2 : ∀ x ∈ (ws.set i (ws[i] - d)).set j ((ws.set i (ws[i] - d))[j] + d), 0 ≤ x := fun x hx => by
    rcases List.mem_or_eq_of_mem_set hx with q | q
    · exact n1 x q
    · have := n1 _ (List.getElem_mem hj2)
      omega
  have sm : ((ws.set i (ws[i] - d)).set j ((ws.set i (ws[i] - d))[j] + d)).sum = ws.sum := by omega
  have p0 := h.pos
  have p1 := h.top
  refine ⟨by simp [h.len], fun x hx => ⟨n2 x hx, ?_⟩, by omega, by omega⟩
  have := le_sum n2 x hx
  omega
noncomputable def Beh (us ws : List Int) : Prop := us.sum = ws.sum ∧ ∀ j, (us.take j).sum ≤ (ws.take j).sum
theorem sum_take_set {l : List Int} {i : Nat} (hi : i < l.length) (v : Int) (j : Nat) : ((l.set i v).take j).sum = (l.take j).sum + if i < j then v - l[i] else 0 := by
  rw [List.take_set]
  by_cases c : i < j
  · rw [if_pos c, sum_set (by rw [List.length_take]; omega) v, List.getElem_take]
  · rw [if_neg c, List.set_eq_of_length_le (by rw [List.length_take]; omega)]; omega
theorem Beh.move {us ws : List Int} (h : Beh us ws) {i j : Nat} (hi : i < us.length) (hj : j < us.length) (hij : i ≤ j) {d : Int} (h0 : 0 ≤ d) : Beh ((us.set i (us[i] - d)).set j ((us.set i (us[i] - d)).getD j 0 + d)) ws := by
  have hj2 : j < (us.set i (us[i] - d)).length := by simpa using hj
  rw [getD_of hj2]
  refine ⟨?_, fun k => ?_⟩
  · have e1 := sum_set hi (us[i] - d)
    have e2 := sum_set hj2 ((us.set i (us[i] - d))[j] + d)
    have := h.1
    omega
  · rw [sum_take_set hj2, sum_take_set hi]
    have := h.2 k
    split <;> split <;> omega
section
variable {P : Program} {w : World} {K : PySem.W.Frag} {mg : Str → Option Value} {base : Heap}
noncomputable def rwF (ws : List Int) : List Rat := ws.map fun x => Rat.divInt x ws.sum
noncomputable def spRuleW : Sp := fun vs H Q _ => ∃ (l : Addr) (n : Nat) (ws : List Int), vs = [.ref l] ∧ H l = some (.lst (iv ws)) ∧ Wts n ws ∧ n ≤ 12 ∧ ∀ v H', Same H H' → RuAt H' v (rwF ws) → Q v H'
theorem ok_rule (T : Txt2 mg) (C_l_share : Cal P w K mg base "_law_share" ["_law_top", "_law_bottom"] 1 spShareL) (F : FunAt K mg "_law_rule" ["_law_weights_here"] s_l_rule) : Cal P w K mg base "_law_rule" ["_law_weights_here"] 2 spRuleW := by
  have S := sc_l_rule
  refine F.cal sc_l_rule (fun vs H Q E h => ?_) (fun f cdv A outer s H vs Q E hr h => ?_)
  · obtain ⟨l, n, ws, rfl, _⟩ := h; rfl
  obtain ⟨l, n, ws, rfl, hl, W, n12, k⟩ := h
  have wl := W.len
  refine ⟨_, (@pss_one _ _ _ (@ps_ret _ _ _ _ (@pe_callTy _ _ _ _ _ _ _ _ _ call_tuple_of (by rfl) (by exact T.z_tuple) (by exact bt_tuple) (@pa_consN _ _ _ _ _ (@pe_comp _ _ _ _ _ _ _ _ _ _ _ _ _ (by rfl) (by exact (fun _ _ h => h)) (by decide +kernel) (by rfl) (by decide +kernel) (by exact hfr_of rfl) (by exact Sees.frees ["_law_one"] [("_law_weights_here", 0)] (fr_cons ⟨rfl, rfl⟩ fr_nil)) (@pi_list _ _ _ _ (pv 0)) (fun _ _ _ _ _ => @pg_name _ _ (0) _ (by exact (show (["_law_one", "_law_weights_here"] : List Str).Nodup by decide +kernel)) (by rfl) (by first | exact Or.inl rfl | exact Or.inr rfl) (by first|rfl|decide|exact .inl rfl|exact .inr rfl|(intros; rfl))) (fun _ _ _ _ _ => pts_nil) (fun _ _ _ _ _ => (@cc _ _ _ _ _ _ _ _ _ _ (by exact C_l_share) (by exact (hr.mono (by decide))) (@pa_consN _ _ _ _ _ (pv 0) (@pa_consN _ _ _ _ _ (@pe_callB _ _ _ _ _ _ _ _ _ (call_sum0 (by rfl)) (by rfl) (by exact T.z_sum) (by exact bt_sum) (@pa_consN _ _ _ _ _ (pv 1) pa_nil (by first|rfl|decide|exact .inl rfl|exact .inr rfl|(intros; rfl))) (by first|rfl|decide|exact .inl rfl|exact .inr rfl|(intros; rfl)) (by first|rfl|decide|exact .inl rfl|exact .inr rfl|(intros; rfl)) (by first|rfl|decide|exact .inl rfl|exact .inr rfl|(intros; rfl)) (by first|rfl|decide|exact .inl rfl|exact .inr rfl|(intros; rfl))) pa_nil (by first|rfl|decide|exact .inl rfl|exact .inr rfl|(intros; rfl))) (by first|rfl|decide|exact .inl rfl|exact .inr rfl|(intros; rfl))) (by first|rfl|decide|exact .inl rfl|exact .inr rfl|(intros; rfl)) (by first|rfl|decide|exact .inl rfl|exact .inr rfl|(intros; rfl)) (by first|rfl|decide|exact .inl rfl|exact .inr rfl|(intros; rfl)) (by first|rfl|decide|exact .inl rfl|exact .inr rfl|(intros; rfl)))) (by first|rfl|decide|exact .inl rfl|exact .inr rfl|(intros; rfl))) pa_nil (by first|rfl|decide|exact .inl rfl|exact .inr rfl|(intros; rfl))) (by first|rfl|decide|exact .inl rfl|exact .inr rfl|(intros; rfl)) (by first|rfl|decide|exact .inl rfl|exact .inr rfl|(intros; rfl)) (by first|rfl|decide|exact .inl rfl|exact .inr rfl|(intros; rfl)) (by first|rfl|decide|exact .inl rfl|exact .inr rfl|(intros; rfl))))), ?_⟩
  refine ⟨_, rfl, l, rfl, ⟨_, SqL.of hl⟩, comp_lst (a := l) (xs := iv ws) (fs := [some (.ref l)]) (fun acc i ys H' => Same H H' ∧ Shs H' ys ((ws.take i).map fun x => Rat.divInt x ws.sum)) (by simp; omega) ?_ ?_ ?_ ?_⟩
  · intro acc hacc
    exact ⟨same_new hacc _, .nil⟩
  · rintro acc i ys H' hacc ⟨s', _⟩
    exact s' _ _ hl
  · rintro acc i ys H' x hacc hx hi ⟨s', hz⟩ hacc' Q' hQ
    obtain ⟨x, rfl, hx'⟩ : ∃ n, x = .int n ∧ ws[i]? = some n := by
      rw [List.getElem?_map] at hx
      obtain ⟨n, h1, h2⟩ := Option.map_eq_some_iff.mp hx
      exact ⟨n, h2.symm, h1⟩
    have xr := W.rng x (List.mem_of_getElem? hx')
    have w0 := W.pos
    have w1 := W.top
    have bt : Bt 10 ws.sum := .of_lt (by omega)
    refine ⟨_, rfl, _, rfl, l, ws, rfl, s' _ _ hl, _, _, rfl, xr.1, w0, bt.mono (by decide), fun v H2 s2 h2 => ?_⟩
    refine hQ _ H2 (s2 _ _ hacc') ⟨same_upd (s'.trans s2) hacc, ?_⟩
    rw [List.take_add_one, hx', List.map_append]
    exact Shs.snoc (shUpdL (s2 _ _ hacc') h2) (Shs.updL (s2 _ _ hacc') (hz.same s2))
  · rintro acc ys H' hacc ⟨s', hz⟩ hacc' hlen
    refine ⟨acc, ys, rfl, .inl ⟨SqL.of hacc', fun t ht => ?_⟩⟩
    rw [List.length_map, List.take_length] at hz
    exact k _ _ (s'.trans (same_new ht _)) ⟨t, ys, rfl, upd_same, hz.same (same_new ht _)⟩
noncomputable def spBehind (K : PySem.W.Frag) : Sp := fun vs H Q _ => ∃ (p a : Addr) (n m : Nat) (ws : List Int), vs = [.ref p, .ref a] ∧ PenZ K H p m ∧ m + 10 ≤ 100000 ∧ H a = some (.lst (iv ws)) ∧ Wts n ws ∧ 1 ≤ n ∧ n ≤ 12 ∧ ∀ (l : Addr) (us : List Int) (H' : Hp), Wts n us → Beh us ws → H' l = some (.lst (iv us)) → PenZ K H' p (m + 10) → SameY p H H' → Q (.ref l) H'
theorem ok_behind (T : Txt2 mg) (C_l_take : Cal P w K mg base "_law_take" ["_law_pen_here", "_law_many"] 1 (spTakeZ K)) (F : FunAt K mg "_law_behind" ["_law_pen_here", "_law_weights_here"] s_l_behind) : Cal P w K mg base "_law_behind" ["_law_pen_here", "_law_weights_here"] 2 (spBehind K) := by
  have S := sc_l_behind
  refine F.cal sc_l_behind (fun vs H Q E h => ?_) (fun f cdv A outer s H vs Q E hr h => ?_)
  · obtain ⟨p, a, n, m, ws, rfl, _⟩ := h; rfl
  obtain ⟨p, a, n, m, ws, rfl, hp, hm, ha, W, n1, n12, k⟩ := h
  refine ⟨_, (@pss_cons _ _ _ _ _ (@ps_set _ _ (2) _ _ _ _ (by exact S.nd) (by rfl) (by first | exact Or.inl rfl | exact Or.inr rfl) (@pe_callTy _ _ _ _ _ _ _ _ _ call_list_of (by rfl) (by exact T.z_list) (by exact bt_list) (@pa_consN _ _ _ _ _ (pv 1) pa_nil (by first|rfl|decide|exact .inl rfl|exact .inr rfl|(intros; rfl))) (by first|rfl|decide|exact .inl rfl|exact .inr rfl|(intros; rfl)) (by first|rfl|decide|exact .inl rfl|exact .inr rfl|(intros; rfl)) (by first|rfl|decide|exact .inl rfl|exact .inr rfl|(intros; rfl)) (by first|rfl|decide|exact .inl rfl|exact .inr rfl|(intros; rfl))) (by first|rfl|decide|exact .inl rfl|exact .inr rfl|(intros; rfl)) (by first|rfl|decide|exact .inl rfl|exact .inr rfl|(intros; rfl))) (@pss_cons _ _ _ _ _ (@ps_for _ _ _ _ _ _ _ _ (by exact PassesOwn.never) (by rfl) (@pi_range1 _ _ _ _ _ _ (by rfl) (by exact T.z_range) (@pa_consN _ _ _ _ _ (@cc _ _ _ _ _ _ _ _ _ _ (by exact C_l_take) (by exact (hr.mono (by decide))) (@pa_consN _ _ _ _ _ (pv 0) (@pa_consN _ _ _ _ _ pe_int pa_nil (by first|rfl|decide|exact .inl rfl|exact .inr rfl|(intros; rfl))) (by first|rfl|decide|exact .inl rfl|exact .inr rfl|(intros; rfl))) (by first|rfl|decide|exact .inl rfl|exact .inr rfl|(intros; rfl)) (by first|rfl|decide|exact .inl rfl|exact .inr rfl|(intros; rfl)) (by first|rfl|decide|exact .inl rfl|exact .inr rfl|(intros; rfl)) (by first|rfl|decide|exact .inl rfl|exact .inr rfl|(intros; rfl))) pa_nil (by first|rfl|decide|exact .inl rfl|exact .inr rfl|(intros; rfl))) (by first|rfl|decide|exact .inl rfl|exact .inr rfl|(intros; rfl))) (@pg_name _ _ (3) _ (by exact S.nd) (by rfl) (by first | exact Or.inl rfl | exact Or.inr rfl) (by first|rfl|decide|exact .inl rfl|exact .inr rfl|(intros; rfl))) (@pss_cons _ _ _ _ _ (@ps_set _ _ (4) _ _ _ _ (by exact S.nd) (by rfl) (by first | exact Or.inl rfl | exact Or.inr rfl) (@cc _ _ _ _ _ _ _ _ _ _ (by exact C_l_take) (by exact (hr.mono (by decide))) (@pa_consN _ _ _ _ _ (pv 0) (@pa_consN _ _ _ _ _ (@pe_callB _ _ _ _ _ _ _ _ _ call_len_seq (by rfl) (by exact T.z_len) (by exact bt_len) (@pa_consN _ _ _ _ _ (pv 2) pa_nil (by first|rfl|decide|exact .inl rfl|exact .inr rfl|(intros; rfl))) (by first|rfl|decide|exact .inl rfl|exact .inr rfl|(intros; rfl)) (by first|rfl|decide|exact .inl rfl|exact .inr rfl|(intros; rfl)) (by first|rfl|decide|exact .inl rfl|exact .inr rfl|(intros; rfl)) (by first|rfl|decide|exact .inl rfl|exact .inr rfl|(intros; rfl))) pa_nil (by first|rfl|decide|exact .inl rfl|exact .inr rfl|(intros; rfl))) (by first|rfl|decide|exact .inl rfl|exact .inr rfl|(intros; rfl))) (by first|rfl|decide|exact .inl rfl|exact .inr rfl|(intros; rfl)) (by first|rfl|decide|exact .inl rfl|exact .inr rfl|(intros; rfl)) (by first|rfl|decide|exact .inl rfl|exact .inr rfl|(intros; rfl)) (by first|rfl|decide|exact .inl rfl|exact .inr rfl|(intros; rfl))) (by first|rfl|decide|exact .inl rfl|exact .inr rfl|(intros; rfl)) (by first|rfl|decide|exact .inl rfl|exact .inr rfl|(intros; rfl))) (@pss_cons _ _ _ _ _ (@ps_set _ _ (5) _ _ _ _ (by exact S.nd) (by rfl) (by first | exact Or.inl rfl | exact Or.inr rfl) (@pe_op _ _ _ _ _ _ _ _ op_add (pv 4) (@cc _ _ _ _ _ _ _ _ _ _ (by exact C_l_take) (by exact (hr.mono (by decide))) (@pa_consN _ _ _ _ _ (pv 0) (@pa_consN _ _ _ _ _ (@pe_op _ _ _ _ _ _ _ _ op_sub (@pe_callB _ _ _ _ _ _ _ _ _ call_len_seq (by rfl) (by exact T.z_len) (by exact bt_len) (@pa_consN _ _ _ _ _ (pv 2) pa_nil (by first|rfl|decide|exact .inl rfl|exact .inr rfl|(intros; rfl))) (by first|rfl|decide|exact .inl rfl|exact .inr rfl|(intros; rfl)) (by first|rfl|decide|exact .inl rfl|exact .inr rfl|(intros; rfl)) (by first|rfl|decide|exact .inl rfl|exact .inr rfl|(intros; rfl)) (by first|rfl|decide|exact .inl rfl|exact .inr rfl|(intros; rfl))) (pv 4)) pa_nil (by first|rfl|decide|exact .inl rfl|exact .inr rfl|(intros; rfl))) (by first|rfl|decide|exact .inl rfl|exact .inr rfl|(intros; rfl))) (by first|rfl|decide|exact .inl rfl|exact .inr rfl|(intros; rfl)) (by first|rfl|decide|exact .inl rfl|exact .inr rfl|(intros; rfl)) (by first|rfl|decide|exact .inl rfl|exact .inr rfl|(intros; rfl)) (by first|rfl|decide|exact .inl rfl|exact .inr rfl|(intros; rfl)))) (by first|rfl|decide|exact .inl rfl|exact .inr rfl|(intros; rfl)) (by first|rfl|decide|exact .inl rfl|exact .inr rfl|(intros; rfl))) (@pss_cons _ _ _ _ _ (@ps_set _ _ (6) _ _ _ _ (by exact S.nd) (by rfl) (by first | exact Or.inl rfl | exact Or.inr rfl) (@cc _ _ _ _ _ _ _ _ _ _ (by exact C_l_take) (by exact (hr.mono (by decide))) (@pa_consN _ _ _ _ _ (pv 0) (@pa_consN _ _ _ _ _ (@pe_op _ _ _ _ _ _ _ _ op_add (@pe_ix _ _ _ _ _ _ _ ix_list (pv 2) (pv 4) (by exact (fun _ _ => rfl))) pe_int) pa_nil (by first|rfl|decide|exact .inl rfl|exact .inr rfl|(intros; rfl))) (by first|rfl|decide|exact .inl rfl|exact .inr rfl|(intros; rfl))) (by first|rfl|decide|exact .inl rfl|exact .inr rfl|(intros; rfl)) (by first|rfl|decide|exact .inl rfl|exact .inr rfl|(intros; rfl)) (by first|rfl|decide|exact .inl rfl|exact .inr rfl|(intros; rfl)) (by first|rfl|decide|exact .inl rfl|exact .inr rfl|(intros; rfl))) (by first|rfl|decide|exact .inl rfl|exact .inr rfl|(intros; rfl)) (by first|rfl|decide|exact .inl rfl|exact .inr rfl|(intros; rfl))) (@pss_cons _ _ _ _ _ (@ps_asg _ _ _ _ _ _ (@pe_op _ _ _ _ _ _ _ _ op_sub (@pe_ix _ _ _ _ _ _ _ ix_list (pv 2) (pv 4) (by exact (fun _ _ => rfl))) (pv 6)) (@pg_sub _ _ _ _ _ _ _ (pv 2) (pv 4) set_list (by first|rfl|decide|exact .inl rfl|exact .inr rfl|(intros; rfl))) (by first|rfl|decide|exact .inl rfl|exact .inr rfl|(intros; rfl)) (by first|rfl|decide|exact .inl rfl|exact .inr rfl|(intros; rfl)) (by first|rfl|decide|exact .inl rfl|exact .inr rfl|(intros; rfl))) (@pss_one _ _ _ (@ps_asg _ _ _ _ _ _ (@pe_op _ _ _ _ _ _ _ _ op_add (@pe_ix _ _ _ _ _ _ _ ix_list (pv 2) (pv 5) (by exact (fun _ _ => rfl))) (pv 6)) (@pg_sub _ _ _ _ _ _ _ (pv 2) (pv 5) set_list (by first|rfl|decide|exact .inl rfl|exact .inr rfl|(intros; rfl))) (by first|rfl|decide|exact .inl rfl|exact .inr rfl|(intros; rfl)) (by first|rfl|decide|exact .inl rfl|exact .inr rfl|(intros; rfl)) (by first|rfl|decide|exact .inl rfl|exact .inr rfl|(intros; rfl)))))))) (by first|rfl|decide|exact .inl rfl|exact .inr rfl|(intros; rfl))) (@pss_one _ _ _ (@ps_ret _ _ _ _ (pv 2))))), ?_⟩
  refine ⟨_, rfl, a, _, rfl, .inl (SqL.of ha), fun l hl => ?_⟩
  have s0 := same_new hl (.lst (iv ws))
  have hl0 : (upd H l (.lst (iv ws))) l = some (.lst (iv ws)) := upd_same
  obtain ⟨q0, y0⟩ := penZ_upd hl hp (SameY.refl p H) hp (.lst (iv ws))
  refine ⟨_, rfl, p, _, _, rfl, q0, by omega, by omega, by omega, fun turns H1 t0 t1 p1 x1 => ?_⟩
  have hl1 := q0.keepL x1 hl0
  refine ⟨_, rfl, by omega, by omega, for_range (n := turns.toNat) (lo := 0) (fun i σ H' => (∃ o3 o4 o5 o6, σ = [some (.ref p), some (.ref a), some (.ref l), o3, o4, o5, o6]) ∧ PenZ K H' p (m + 1 + 3 * i) ∧ SameY p H H' ∧ ∃ us, H' l = some (.lst (iv us)) ∧ Wts n us ∧ Beh us ws) ⟨⟨_, _, _, _, rfl⟩, p1.mono (by omega), y0.trans x1, ws, hl1, W, rfl, fun _ => Int.le_refl _⟩ ?_ ?_⟩
  · rintro i σ H2 hi ⟨⟨o3, o4, o5, o6, rfl⟩, p2, x2, us, hl2, U, BH⟩
    have ul := U.len
    refine ⟨_, rfl, _, rfl, l, _, rfl, .inl (SqL.of hl2), p, _, _, rfl, p2, by omega, (by simp; omega), (by simp; omega), fun at' H3 a0 a1 p3 x3 => ?_⟩
    obtain ⟨an, rfl⟩ : ∃ an : Nat, at' = (an : Int) := ⟨at'.toNat, by omega⟩
    have han : an < us.length := by
      have : (an : Int) < (((iv us).length : Nat) : Int) := a1
      simp at this
      omega
    have hl3 := p2.keepL x3 hl2
    refine ⟨_, rfl, _, rfl, _, rfl, l, _, rfl, .inl (SqL.of hl3), _, rfl, _, _, rfl, rfl, p, _, _, rfl, p3, by omega, (by simp; omega), (by simp; omega), fun b H4 b0 b1 p4 x4 => ?_⟩
    have hl4 := p3.keepL x4 hl3
    obtain ⟨bn, rfl⟩ : ∃ bn : Nat, b = (bn : Int) := ⟨b.toNat, by omega⟩
    have hbn : an + bn < us.length := by
      have : (bn : Int) < (((iv us).length : Nat) : Int) - (an : Int) := b1
      simp at this
      omega
    have ur := U.rng us[an] (List.getElem_mem han)
    have gd : us.getD an 0 = us[an] := getD_of han
    refine ⟨_, _, rfl, rfl, _, rfl, _, rfl, _, rfl, l, _, _, _, rfl, rfl, SqL.of hl4, iv_atI han, _, _, rfl, rfl, p, _, _, rfl, p4, by omega, (by omega), (by omega), fun d H5 d0 d1 p5 x5 => ?_⟩
    have hl5 := p4.keepL x5 hl4
    have xx : SameY p H H5 := ((x2.trans x3).trans x4).trans x5
    refine ⟨_, rfl, _, rfl, l, _, _, _, rfl, rfl, SqL.of hl5, iv_atI han, _, rfl, _, _, rfl, rfl, _, rfl, _, rfl, l, _, _, an, rfl, rfl, hl5, ixN_lt (by simpa using han), ?_⟩
    have ew : (iv us).set an (.int (us.getD an 0 - d)) = iv (us.set an (us[an] - d)) := by rw [gd]; exact (List.map_set ..).symm
    rw [ew]
    obtain ⟨p6, x6⟩ := penZ_upd hl hp xx p5 (.lst (iv (us.set an (us[an] - d))))
    have hl6 : (upd H5 l (.lst (iv (us.set an (us[an] - d))))) l = some (.lst (iv (us.set an (us[an] - d)))) := upd_same
    generalize upd H5 l (.lst (iv (us.set an (us[an] - d)))) = H6 at p6 x6 hl6
    have hb2 : an + bn < (us.set an (us[an] - d)).length := by simpa using hbn
    have ej : (an : Int) + (bn : Int) = ((an + bn : Nat) : Int) := by omega
    refine ⟨_, rfl, _, rfl, l, _, _, _, rfl, rfl, SqL.of hl6, (by rw [ej]; exact iv_atI hb2), _, rfl, _, _, rfl, rfl, _, rfl, _, rfl, l, _, _, an + bn, rfl, rfl, hl6, (by rw [ej]; exact ixN_lt (by simpa using hbn)), ?_⟩
    have ew2 : (iv (us.set an (us[an] - d))).set (an + bn) (.int ((us.set an (us[an] - d)).getD (an + bn) 0 + d)) = iv ((us.set an (us[an] - d)).set (an + bn) ((us.set an (us[an] - d)).getD (an + bn) 0 + d)) := (List.map_set ..).symm
    rw [ew2]
    obtain ⟨p7, x7⟩ := penZ_upd hl hp x6 p6 (.lst (iv ((us.set an (us[an] - d)).set (an + bn) ((us.set an (us[an] - d)).getD (an + bn) 0 + d))))
    exact ⟨⟨_, _, _, _, rfl⟩, p7.mono (by omega), x7, _, upd_same, U.move han hbn d0 (by omega), BH.move han hbn (by omega) d0⟩
  · rintro σ H2 ⟨⟨o3, o4, o5, o6, rfl⟩, p2, x2, us, hl2, U, BH⟩
    exact ⟨_, rfl, k l us H2 U BH hl2 (p2.mono (by omega)) x2⟩
end
end My
set_option Elab.async false
set_option linter.all false
set_option maxRecDepth 100000
set_option maxHeartbeats 4000000
namespace My
open PySem L2 MA
noncomputable def lowN (N : Nat) (p : Int × Int) : Bool := decide (0 < p.2) && decide (gI p.1 p.2 = 1) && decide (0 ≤ p.1) && decide (p.1.natAbs < 2 ^ N) && decide (p.2.natAbs < 2 ^ N)
noncomputable def FineN (N n : Nat) (qs : List Rat) : Prop := qs.length = n ∧ ∀ q ∈ qs, 0 ≤ q ∧ SB N q
theorem FineN.mono {M N n : Nat} {qs : List Rat} (h : FineN M n qs) (l : M ≤ N) : FineN N n qs := ⟨h.1, fun q hq => ⟨(h.2 q hq).1, (h.2 q hq).2.mono l⟩⟩
theorem FineN.okr {N n : Nat} {qs : List Rat} (h : FineN N n qs) (h1 : n ≤ 12) (h2 : (n - 1) * (2 * N + 2) + 1 ≤ 3000) (h3 : N ≤ 1000) (h4 : n * (N + 1) + 1 ≤ 4000) : Okr N qs := by
  obtain ⟨rfl, q⟩ := h
  exact ⟨q, h1, h2, h3, h4⟩
theorem low_oneN {N : Nat} {p : Int × Int} (h : lowN N p = true) : p = prq (Rat.divInt p.1 p.2) ∧ 0 ≤ Rat.divInt p.1 p.2 ∧ SB N (Rat.divInt p.1 p.2) := by
  unfold lowN at h
  simp only [Bool.and_eq_true, decide_eq_true_eq] at h
  obtain ⟨⟨⟨⟨h1, h2⟩, h3⟩, h4⟩, h5⟩ := h
  have s := share_pos (t := p.1) h1
  rw [h2, Int.ediv_one, Int.ediv_one] at s
  refine ⟨?_, Rat.num_nonneg.mp (by rw [← s.1]; exact h3), ⟨?_, ?_⟩⟩
  · unfold prq; rw [← s.1, ← s.2]
  · rw [← s.1]; exact .of_lt h4
  · rw [← s.2]; exact .of_lt h5
theorem low_listN {N : Nat} {ps : List (Int × Int)} (h : ps.all (lowN N) = true) : ∃ qs : List Rat, ps = qs.map prq ∧ FineN N ps.length qs := by
  refine ⟨ps.map fun p => Rat.divInt p.1 p.2, ?_, by simp, fun q hq => ?_⟩
  · rw [List.map_map]
    conv => lhs; rw [← List.map_id ps]
    refine List.map_congr_left fun p hp => ?_
    exact (low_oneN (List.all_eq_true.mp h p hp)).1
  · obtain ⟨p, hp, rfl⟩ := List.mem_map.mp hq
    exact (low_oneN (List.all_eq_true.mp h p hp)).2
theorem drawn_low15 : ∀ n, n < 13 → ∀ k, k < 5 → (drawnF ((n : Nat) : Int) ((k : Nat) : Int)).all (lowN 15) = true := by decide +kernel
theorem drawn_low10 : ∀ n, n < 7 → ∀ k, k < 4 → (drawnF ((n : Nat) : Int) ((k : Nat) : Int)).all (lowN 10) = true := by decide +kernel
theorem unlike_low10 : ∀ n, n < 13 → ∀ k, k < 13 → k ≤ n → 1 ≤ k → (unlikeF ((n : Nat) : Int) ((k : Nat) : Int)).all (lowN 10) = true := by decide +kernel
theorem drawn_fineN {n k : Int} (h : okD n k) : ∃ qs : List Rat, drawnF n k = qs.map prq ∧ FineN 15 n.toNat qs ∧ (n ≤ 6 → k ≤ 3 → FineN 10 n.toNat qs) := by
  obtain ⟨h1, h2, h3, h4⟩ := h
  have e1 : n = ((n.toNat : Nat) : Int) := by omega
  have e2 : k = ((k.toNat : Nat) : Int) := by omega
  have l := drawn_low15 n.toNat (by omega) k.toNat (by omega)
  rw [← e1, ← e2] at l
  have e : (drawnF n k).length = n.toNat := by simp [drawnF]
  refine ⟨(drawnF n k).map fun p => Rat.divInt p.1 p.2, ?_, ⟨by simp [e], fun q hq => ?_⟩, fun g1 g2 => ⟨by simp [e], fun q hq => ?_⟩⟩
  · rw [List.map_map]
    conv => lhs; rw [← List.map_id (drawnF n k)]
    refine List.map_congr_left fun p hp => ?_
    exact (low_oneN (List.all_eq_true.mp l p hp)).1
  · obtain ⟨p, hp, rfl⟩ := List.mem_map.mp hq
    exact (low_oneN (List.all_eq_true.mp l p hp)).2
  · have l2 := drawn_low10 n.toNat (by omega) k.toNat (by omega)
    rw [← e1, ← e2] at l2
    obtain ⟨p, hp, rfl⟩ := List.mem_map.mp hq
    exact (low_oneN (List.all_eq_true.mp l2 p hp)).2
theorem unlike_fineN {n k : Int} (h : okU n k) : ∃ qs : List Rat, unlikeF n k = qs.map prq ∧ FineN 10 n.toNat qs := by
  obtain ⟨h1, h2, h3, h4⟩ := h
  have e1 : n = ((n.toNat : Nat) : Int) := by omega
  have e2 : k = ((k.toNat : Nat) : Int) := by omega
  have l := unlike_low10 n.toNat (by omega) k.toNat (by omega) (by omega) (by omega)
  rw [← e1, ← e2] at l
  obtain ⟨qs, a, b⟩ := low_listN l
  have e : (unlikeF n k).length = n.toNat := by simp [unlikeF]
  rw [e] at b
  exact ⟨qs, a, b⟩
theorem rw_fineN {n : Nat} {ws : List Int} (h : Wts n ws) : FineN 10 n (rwF ws) := by
  have hs := h.pos
  have ht := h.top
  refine ⟨by simp [rwF, h.len], fun q hq => ?_⟩
  obtain ⟨c, hc, rfl⟩ := List.mem_map.mp hq
  have h1 := h.rng c hc
  refine ⟨Rat.num_nonneg.mp (by rw [← (share_pos (t := c) hs).1]; exact Int.ediv_nonneg h1.1 (gI_nonneg _ _)), SB.divInt (.of_lt (by omega)) (.of_lt (by omega)) hs⟩
theorem one_sub {q : Rat} (h : q.num ≤ (q.den : Int)) : 0 ≤ 1 - q := by
  have : q ≤ 1 := by
    rw [Rat.le_iff]
    show q.num * ((1 : Nat) : Int) ≤ 1 * (q.den : Int)
    omega
  grind
theorem FineN.mix {N M k n : Nat} {qs rs : List Rat} {q : Rat} (h : FineN N n qs) (g : FineN M n rs) (bq : SB k q) (q0 : 0 ≤ q) (q1 : q.num ≤ (q.den : Int)) : FineN (N + M + 2 * k + 3) n (List.zipWith (mixF q) qs rs) := by
  refine ⟨by rw [List.length_zipWith, h.1, g.1]; omega, fun x hx => ?_⟩
  rw [List.mem_iff_getElem] at hx
  obtain ⟨i, hi, rfl⟩ := hx
  rw [List.getElem_zipWith]
  rw [List.length_zipWith] at hi
  obtain ⟨a0, ab⟩ := h.2 (qs[i]'(by omega)) (List.getElem_mem _)
  obtain ⟨b0, bb⟩ := g.2 (rs[i]'(by omega)) (List.getElem_mem _)
  refine ⟨Rat.add_nonneg (Rat.mul_nonneg q0 a0) (Rat.mul_nonneg (one_sub q1) b0), ?_⟩
  have br : SB (1 + k + 1) (1 - q) := SB.sub (m := 1) ⟨by decide, by decide⟩ bq
  exact ((bq.mul ab).add (br.mul bb)).mono (by omega)
theorem gN_eq {i : Nat} {x y : V} {σ : St} {H : Hp} {Q : St → Hp → Prop} (e : x = y) (h : gName i y σ H Q) : gName i x σ H Q := e ▸ h
theorem tstN {a b : Int} (c : ¬ decide (V.int a = V.int b) = true) : a ≠ b := fun e => c (by rw [e]; simp)
theorem div7 {r : Int} (h0 : 0 ≤ r) (h1 : r ≤ 7) : SB 3 (Rat.divInt r 7) ∧ 0 ≤ Rat.divInt r 7 ∧ (Rat.divInt r 7).num ≤ ((Rat.divInt r 7).den : Int) := by
  have e := share_pos (t := r) (b := 7) (by decide)
  have g := gI_pos_right (a := r) (b := 7) (by omega)
  refine ⟨SB.divInt (.of_lt (by omega)) (by decide) (by decide), Rat.num_nonneg.mp (by rw [← e.1]; exact Int.ediv_nonneg h0 (by omega)), ?_⟩
  rw [← e.1, ← e.2]
  exact Int.ediv_le_ediv g h1
end My
set_option Elab.async false
set_option linter.all false
set_option maxRecDepth 100000
set_option maxHeartbeats 4000000
namespace My
open PySem L2 MA Srt
noncomputable def tpF (L : Int) (qs : List Rat) : List Int := qs.map fun q => q.num * (L / (q.den : Int))
noncomputable def lqF (qs : List Rat) (b : Int) : Int := qs.foldl (fun b q => b / gI b (q.den : Int) * (q.den : Int)) b
theorem lq_step {b d : Int} (hb : 0 < b) (hd : 0 < d) : 0 < b / gI b d * d ∧ b ∣ b / gI b d * d ∧ d ∣ b / gI b d * d := by
  have g0 := gI_pos_right (a := b) (b := d) (by omega)
  have g1 := gI_dvd_left b d
  have g2 := gI_dvd_right b d
  refine ⟨?_, ?_, Int.dvd_mul_left _ _⟩
  · refine Int.mul_pos ?_ hd
    exact Int.ediv_pos_of_pos_of_dvd hb (by omega) g1
  · obtain ⟨k, hk⟩ := g2
    have e : b / gI b d * d = b * k := by
      rw [show b / gI b d * d = b / gI b d * (gI b d * k) by rw [← hk], ← Int.mul_assoc, Int.ediv_mul_cancel g1]
    rw [e]
    exact Int.dvd_mul_right _ _
theorem lq_fold : ∀ (qs : List Rat) (b : Int), 0 < b → 0 < lqF qs b ∧ b ∣ lqF qs b ∧ ∀ q ∈ qs, (q.den : Int) ∣ lqF qs b
  | [], b, h => ⟨h, Int.dvd_refl _, by simp⟩
  | q :: qs, b, h => by
    obtain ⟨p1, p2, p3⟩ := lq_step (d := (q.den : Int)) h (by have := q.den_pos; omega)
    obtain ⟨i1, i2, i3⟩ := lq_fold qs _ p1
    refine ⟨i1, Int.dvd_trans p2 i2, fun r hr => ?_⟩
    rcases List.mem_cons.mp hr with rfl | hr
    · exact Int.dvd_trans p3 i2
    · exact i3 r hr
theorem lq_bits : ∀ (qs : List Rat) (b : Int) (m : Nat), 0 < b → Bt m b → (∀ q ∈ qs, SB 50 q) → Bt (m + 50 * qs.length) (lqF qs b)
  | [], b, m, _, h, _ => h
  | q :: qs, b, m, h0, h, hq => by
    obtain ⟨p1, _, _⟩ := lq_step (d := (q.den : Int)) h0 (by have := q.den_pos; omega)
    have g0 := gI_pos_right (a := b) (b := (q.den : Int)) (by have := q.den_pos; omega)
    have := lq_bits qs _ (m + 50) p1 ((h.ediv g0).mul (hq q (by simp)).2) fun r hr => hq r (by simp [hr])
    exact this.mono (by simp; omega)
theorem lq_snoc {qs : List Rat} {i : Nat} {q : Rat} (h : qs[i]? = some q) : lqF (qs.take (i + 1)) 1 = lqF (qs.take i) 1 / gI (lqF (qs.take i) 1) (q.den : Int) * (q.den : Int) := by
  unfold lqF
  rw [List.take_add_one, h, List.foldl_append]
  rfl
theorem lq_all {qs : List Rat} (hq : ∀ q ∈ qs, SB 50 q) (hl : qs.length ≤ 24) (i : Nat) : 0 < lqF (qs.take i) 1 ∧ Bt 1201 (lqF (qs.take i) 1) := by
  refine ⟨(lq_fold _ 1 (by decide)).1, (lq_bits (qs.take i) 1 1 (by decide) (by decide) fun q h => hq q (List.mem_of_mem_take h)).mono ?_⟩
  rw [List.length_take]
  omega
theorem lq_dvd : ∀ (qs : List Rat) (b S : Int), 0 < b → 0 < S → b ∣ S → (∀ q ∈ qs, (q.den : Int) ∣ S) → lqF qs b ∣ S
  | [], b, S, _, _, h, _ => h
  | q :: qs, b, S, hb, hS, h, hq => by
    obtain ⟨p1, _, _⟩ := lq_step (d := (q.den : Int)) hb (by have := q.den_pos; omega)
    refine lq_dvd qs _ S p1 hS ?_ fun r hr => hq r (by simp [hr])
    have hd := hq q (by simp)
    have d0 : (0 : Int) < (q.den : Int) := by have := q.den_pos; omega
    have g0 := gI_pos_right (a := b) (b := (q.den : Int)) (by omega)
    have g1 := gI_dvd_left b (q.den : Int)
    have e : b / gI b (q.den : Int) * (q.den : Int) = ((b.natAbs.lcm q.den : Nat) : Int) := by
      obtain ⟨m, rfl⟩ : ∃ m : Nat, b = (m : Int) := ⟨b.natAbs, by omega⟩
      show (m : Int) / ((m.gcd q.den : Nat) : Int) * (q.den : Int) = ((m.lcm q.den : Nat) : Int)
      rw [← Int.natCast_ediv, ← Int.natCast_mul, Nat.div_mul_right_comm (Nat.gcd_dvd_left _ _)]
      rfl
    show b / gI b (q.den : Int) * (q.den : Int) ∣ S
    rw [e]
    have hbn : b.natAbs ∣ S.natAbs := Int.natAbs_dvd_natAbs.mpr h
    have hdn : q.den ∣ S.natAbs := by have := Int.natAbs_dvd_natAbs.mpr hd; simpa using this
    have := Nat.lcm_dvd hbn hdn
    have := Int.natCast_dvd_natCast.mpr this
    rwa [Int.natAbs_of_nonneg (by omega)] at this
theorem tp_at {L : Int} {q : Rat} (hd : (q.den : Int) ∣ L) {t b : Int} (hb : 0 < b) (e : q = Rat.divInt t b) : q.num * (L / (q.den : Int)) * b = t * L := by
  obtain ⟨k, hk⟩ := hd
  have d0 : (0 : Int) < (q.den : Int) := by have := q.den_pos; omega
  rw [hk, Int.mul_ediv_cancel_left _ (by omega)]
  have h1 : q.num * b = t * (q.den : Int) := by
    have := (Rat.divInt_eq_divInt_iff (n₁ := q.num) (n₂ := t) (d₁ := (q.den : Int)) (d₂ := b) (by omega) (by omega)).mp (by rw [← e]; exact Rat.num_divInt_den q)
    exact this
  rw [show q.num * k * b = q.num * b * k by rw [Int.mul_right_comm], h1, Int.mul_assoc]
theorem part_step (q : Rat) {x : Int} (hx : 0 < x) {t b : Int} (hb : 0 < b) (e : q = Rat.divInt t b) : (q.num / gI q.num x, (q.den : Int) * (x / gI q.num x)) = prq (Rat.divInt t (b * x)) := by
  have d0 : (0 : Int) < (q.den : Int) := by have := q.den_pos; omega
  have e2 : Rat.divInt t (b * x) = Rat.divInt q.num ((q.den : Int) * x) := by
    rw [Rat.divInt_eq_divInt_iff (by have := Int.mul_pos hb hx; omega) (by have := Int.mul_pos d0 hx; omega)]
    have h1 : q.num * b = t * (q.den : Int) := by
      have := (Rat.divInt_eq_divInt_iff (n₁ := q.num) (n₂ := t) (d₁ := (q.den : Int)) (d₂ := b) (by omega) (by omega)).mp (by rw [← e]; exact Rat.num_divInt_den q)
      exact this
    rw [← Int.mul_assoc, ← h1]; rw [Int.mul_assoc]
  have sp := share_pos (t := q.num) (Int.mul_pos d0 hx)
  have eg : gI q.num ((q.den : Int) * x) = gI q.num x := by
    unfold gI
    congr 1
    show q.num.natAbs.gcd ((q.den : Int) * x).natAbs = q.num.natAbs.gcd x.natAbs
    rw [Int.natAbs_mul]
    exact Nat.Coprime.gcd_mul_left_cancel_right _ (by simpa using q.reduced.symm)
  rw [eg] at sp
  rw [e2]
  unfold prq
  rw [← sp.1, ← sp.2]
  congr 1
  exact (Int.mul_ediv_assoc _ (gI_dvd_right q.num x)).symm
theorem parted_q {t : Int} : ∀ (n : Nat) (bs : List Int), bs.length = n → (∀ b ∈ bs, 0 < b) → partedF t bs = prq (Rat.divInt t bs.prod)
  | 0, bs, h, _ => by
    have : bs = [] := List.length_eq_zero_iff.mp h
    subst this
    have := share_pos (t := t) (b := 1) (by decide)
    show (t, 1) = _
    unfold prq
    rw [List.prod_nil, ← this.1, ← this.2]
    have : gI t 1 = 1 := by unfold gI; simp
    rw [this, Int.ediv_one]; rfl
  | n + 1, bs, h, hb => by
    obtain ⟨l, x, rfl⟩ : ∃ l x, bs = l ++ [x] := by
      rcases List.eq_nil_or_concat bs with e | ⟨l, r, e⟩
      · subst e; simp at h
      · exact ⟨l, r, by rw [e, List.concat_eq_append]⟩
    have ih := parted_q (t := t) n l (by simpa using h) fun b hb' => hb b (by simp [hb'])
    have e : partedF t (l ++ [x]) = ((partedF t l).1 / gI (partedF t l).1 x, (partedF t l).2 * (x / gI (partedF t l).1 x)) := by unfold partedF; rw [List.foldl_append]; rfl
    have hp : 0 < l.prod := by
      have : ∀ (l : List Int), (∀ b ∈ l, 0 < b) → 0 < l.prod := by
        intro l
        induction l with
        | nil => intro _; simp
        | cons a l ih => intro h; rw [List.prod_cons]; exact Int.mul_pos (h a (by simp)) (ih fun b hb => h b (by simp [hb]))
      exact this l fun b hb' => hb b (by simp [hb'])
    rw [e, ih, List.prod_append, List.prod_cons, List.prod_nil, Int.mul_one]
    exact part_step _ (hb x (by simp)) hp rfl
noncomputable def fallF (l : List Int) : List Int := l.mergeSort fun a b => decide (b ≤ a)
theorem fall_perm (l : List Int) : (fallF l).Perm l := List.mergeSort_perm l _
theorem fall_down (l : List Int) : (fallF l).Pairwise (· ≥ ·) := by
  have := List.pairwise_mergeSort (le := fun a b : Int => decide (b ≤ a)) (fun a b c h1 h2 => by simp at *; omega) (fun a b => by simp; omega) l
  exact this.imp fun {a b} h => by simpa using h
theorem fall_eq {ms l : List Int} (h : ms.Perm l) (d : ms.Pairwise (· ≥ ·)) : ms = fallF l :=
  List.Perm.eq_of_pairwise (le := fun x y => x ≥ y) (fun x y _ _ h1 h2 => by omega) d (fall_down l) (h.trans (fall_perm l).symm)
theorem fall_length (l : List Int) : (fallF l).length = l.length := (fall_perm l).length_eq
noncomputable def putL (l : List Int) (r : Nat) : List Int := fallF (l.set r (l.getD r 0 + 1))
noncomputable def gainF (c : List Int) (n : Nat) (l : List Int) : Mp := (List.range n).flatMap fun r => if 0 < c.getD r 0 then [(putL l r, c.getD r 0)] else []
theorem gain_succ (c : List Int) (n : Nat) (l : List Int) : gainF c (n + 1) l = gainF c n l ++ if 0 < c.getD n 0 then [(putL l n, c.getD n 0)] else [] := by
  unfold gainF; rw [List.range_succ, List.flatMap_append]; simp
theorem pos_of {a b : Int} (h : 0 < a * b) (hb : 0 < b) : 0 < a := by
  rcases Int.lt_or_le 0 a with z | z
  · exact z
  · have := Int.mul_nonpos_of_nonpos_of_nonneg z (Int.le_of_lt hb)
    omega
theorem gain_like {c w : List Int} {S b : Int} (hS : 0 < S) (hb : 0 < b) (h : ∀ r, c.getD r 0 * S = w.getD r 0 * b) (n : Nat) (l : List Int) : (∀ k, k ∈ keysM (gainF c n l) ↔ k ∈ keysM (gainF w n l)) ∧ ∀ k, sumAt (gainF c n l) k * S = sumAt (gainF w n l) k * b := by
  induction n with
  | zero => exact ⟨fun _ => Iff.rfl, fun _ => by simp [gainF, sumAt]⟩
  | succ n ih =>
    have hp : 0 < c.getD n 0 ↔ 0 < w.getD n 0 := by
      have e := h n
      constructor
      · intro z; have := Int.mul_pos z hS; rw [e] at this; exact pos_of this hb
      · intro z; have := Int.mul_pos z hb; rw [← e] at this; exact pos_of this hS
    rw [gain_succ, gain_succ]
    by_cases z : 0 < c.getD n 0
    · rw [if_pos z, if_pos (hp.mp z)]
      refine ⟨fun k => ?_, fun k => ?_⟩
      · have := ih.1 k
        simp only [keysM, List.map_append, List.mem_append] at this ⊢
        rw [this]; simp
      · rw [sumAt_snoc, sumAt_snoc, Int.add_mul, Int.add_mul, ih.2 k]
        congr 1
        by_cases e : putL l n = k
        · rw [if_pos e, if_pos e]; exact h n
        · rw [if_neg e, if_neg e]; omega
    · rw [if_neg z, if_neg (fun q => z (hp.mpr q)), List.append_nil, List.append_nil]
      exact ih
theorem gain_vals {c : List Int} (h0 : ∀ x ∈ c, 0 ≤ x) (l : List Int) : (valsM (gainF c c.length l)).sum = c.sum := by
  have : ∀ n, n ≤ c.length → (valsM (gainF c n l)).sum = (c.take n).sum := by
    intro n
    induction n with
    | zero => intro _; simp [gainF, valsM]
    | succ n ih =>
      intro hn
      have hl : n < c.length := by omega
      rw [gain_succ, List.take_succ_eq_append_getElem hl, List.sum_append]
      have e : c.getD n 0 = c[n] := by simp [hl]
      have ih' := ih (by omega)
      unfold valsM at ih' ⊢
      rw [List.map_append, List.sum_append, ih', e]
      congr 1
      by_cases z : 0 < c[n]
      · rw [if_pos z]; simp
      · rw [if_neg z]
        have := h0 c[n] (List.getElem_mem hl)
        simp; omega
  have := this c.length (Nat.le_refl _)
  rwa [List.take_length] at this
noncomputable abbrev Spd := List (List Int × Rat)
noncomputable def RwAt (H : Hp) (v : V) (r : List Int × Rat) : Prop := ∃ a b v2, v = .ref a ∧ H a = some (.tup [.ref b, v2]) ∧ H b = some (.tup (iv r.1)) ∧ ShAt H v2 r.2
noncomputable def SpAt (H : Hp) (l : Addr) (rs : Spd) : Prop := ∃ xs, H l = some (.lst xs) ∧ Paired (RwAt H) xs rs
theorem RwAt.imp {H H' : Hp} {v : V} {r : List Int × Rat} (k : ∀ b xs, H b = some (.tup xs) → H' b = some (.tup xs)) (h : RwAt H v r) : RwAt H' v r := by
  obtain ⟨a, b, v2, e, h1, h2, c, e2, h3⟩ := h
  exact ⟨a, b, v2, e, k _ _ h1, k _ _ h2, c, e2, k _ _ h3⟩
theorem SpAt.same {H H' : Hp} {l : Addr} {rs : Spd} (s : Same H H') (h : SpAt H l rs) : SpAt H' l rs := let ⟨xs, e, r⟩ := h; ⟨xs, s _ _ e, Paired.mapP r fun _ _ z => z.imp fun b xs e => s b _ e⟩
noncomputable def sprF (m : Mp) (W : Int) : Spd := (rise (keysM m)).map fun k => (k, Rat.divInt (getM m k) W)
theorem spr_like {p f : Mp} {x y D W : Int} (L : Like p f x y) (hx : 0 < x) (hD : 0 < D) (hW : 0 < W) (e : y * W = D * x) : sprF p D = sprF f W := by
  unfold sprF
  rw [rise_congr (perm_of_mem L.np L.nf L.keys)]
  refine List.map_congr_left fun k _ => ?_
  congr 1
  rw [Rat.divInt_eq_divInt_iff (by omega) (by omega)]
  have h := L.vals k
  have : getM p k * W * x = getM f k * D * x := by
    rw [Int.mul_right_comm, h, Int.mul_assoc, e, Int.mul_assoc, Int.mul_comm D x]
  exact Int.eq_of_mul_eq_mul_right (by omega) this
section
variable {P : Program} {w : World} {K : PySem.W.Frag} {mg : Str → Option Value} {base : Heap}
noncomputable def spWeighQ : Sp := fun vs H Q _ => ∃ (l : Addr) (xs : List V) (qs : List Rat), vs = [.ref l] ∧ H l = some (.lst xs) ∧ Shs H xs qs ∧ (∀ q ∈ qs, SB 50 q) ∧ qs.length ≤ 24 ∧
  ∀ (t c : Addr) (H' : Hp), Same H H' → H' t = some (.tup [.ref c, .int (lqF qs 1)]) → H' c = some (.lst (iv (tpF (lqF qs 1) qs))) → Q (.ref t) H'
theorem ok_weighQ (C_measure : Cal P w K mg base "measure" ["a", "b"] 1 spMeasure) (F : FunAt K mg "weighed" ["some"] s_weighed) : Cal P w K mg base "weighed" ["some"] 2 spWeighQ := by
  have S := sc_weighed
  refine F.cal sc_weighed (fun vs H Q E h => ?_) (fun f cdv A outer s H vs Q E hr h => ?_)
  · obtain ⟨l, xs, qs, rfl, _⟩ := h; rfl
  obtain ⟨l, xs, qs, rfl, hl, shs, bq, hn, k⟩ := h
  have xl := shs.length
  refine ⟨_, (@pss_cons _ _ _ _ _ (@ps_set _ _ (1) _ _ _ _ (by exact S.nd) (by rfl) (by first | exact Or.inl rfl | exact Or.inr rfl) pe_int (by first|rfl|decide|exact .inl rfl|exact .inr rfl|(intros; rfl)) (by first|rfl|decide|exact .inl rfl|exact .inr rfl|(intros; rfl))) (@pss_cons _ _ _ _ _ (@ps_for _ _ _ _ _ _ _ _ (by exact PassesOwn.never) (by rfl) (@pi_list _ _ _ _ (pv 0)) (@pg_name _ _ (2) _ (by exact S.nd) (by rfl) (by first | exact Or.inl rfl | exact Or.inr rfl) (by first|rfl|decide|exact .inl rfl|exact .inr rfl|(intros; rfl))) (@pss_one _ _ _ (@ps_set _ _ (1) _ _ _ _ (by exact S.nd) (by rfl) (by first | exact Or.inl rfl | exact Or.inr rfl) (@pe_op _ _ _ _ _ _ _ _ op_mulB (@pe_op _ _ _ _ _ _ _ _ op_fdivB (pv 1) (@cc _ _ _ _ _ _ _ _ _ _ (by exact C_measure) (by exact (hr.mono (by decide))) (@pa_consN _ _ _ _ _ (pv 1) (@pa_consN _ _ _ _ _ (@pe_ix _ _ _ _ _ _ _ ix_tup0 (pv 2) pe_int (by exact (fun _ _ => rfl))) pa_nil (by first|rfl|decide|exact .inl rfl|exact .inr rfl|(intros; rfl))) (by first|rfl|decide|exact .inl rfl|exact .inr rfl|(intros; rfl))) (by first|rfl|decide|exact .inl rfl|exact .inr rfl|(intros; rfl)) (by first|rfl|decide|exact .inl rfl|exact .inr rfl|(intros; rfl)) (by first|rfl|decide|exact .inl rfl|exact .inr rfl|(intros; rfl)) (by first|rfl|decide|exact .inl rfl|exact .inr rfl|(intros; rfl)))) (@pe_ix _ _ _ _ _ _ _ ix_tup0 (pv 2) pe_int (by exact (fun _ _ => rfl)))) (by first|rfl|decide|exact .inl rfl|exact .inr rfl|(intros; rfl)) (by first|rfl|decide|exact .inl rfl|exact .inr rfl|(intros; rfl)))) (by first|rfl|decide|exact .inl rfl|exact .inr rfl|(intros; rfl))) (@pss_one _ _ _ (@ps_ret _ _ _ _ (@pe_tup _ _ _ _ _ (@pa_consN _ _ _ _ _ (@pe_comp _ _ _ _ _ _ _ _ _ _ _ _ _ (by rfl) (by exact (fun _ _ h => h)) (by decide +kernel) (by rfl) (by decide +kernel) (by exact hfr_of rfl) (by exact Sees.frees ["one"] [("bottom", 1)] (fr_cons ⟨rfl, rfl⟩ fr_nil)) (@pi_list _ _ _ _ (pv 0)) (fun _ _ _ _ _ => @pg_name _ _ (0) _ (by exact (show (["one", "bottom"] : List Str).Nodup by decide +kernel)) (by rfl) (by first | exact Or.inl rfl | exact Or.inr rfl) (by first|rfl|decide|exact .inl rfl|exact .inr rfl|(intros; rfl))) (fun _ _ _ _ _ => pts_nil) (fun _ _ _ _ _ => (@pe_op _ _ _ _ _ _ _ _ op_mulB (@pe_ix _ _ _ _ _ _ _ ix_tup0 (pv 0) pe_int (by exact (fun _ _ => rfl))) (@pe_op _ _ _ _ _ _ _ _ op_fdivB (pv 1) (@pe_ix _ _ _ _ _ _ _ ix_tup0 (pv 0) pe_int (by exact (fun _ _ => rfl)))))) (by first|rfl|decide|exact .inl rfl|exact .inr rfl|(intros; rfl))) (@pa_consN _ _ _ _ _ (pv 1) pa_nil (by first|rfl|decide|exact .inl rfl|exact .inr rfl|(intros; rfl))) (by first|rfl|decide|exact .inl rfl|exact .inr rfl|(intros; rfl)))))))), ?_⟩
  refine ⟨_, rfl, l, rfl, ⟨_, SqL.of hl⟩, for_list (xs := xs) (fun i σ H' => H' = H ∧ ∃ o, σ = [some (.ref l), some (.int (lqF (qs.take i) 1)), o]) ?_ ?_ ?_ ?_⟩
  · exact ⟨rfl, _, rfl⟩
  · rintro i σ H' _ ⟨rfl, _⟩
    exact SqL.of hl
  · rintro i x σ H' hx ⟨rfl, o, rfl⟩
    obtain ⟨q, hq, ⟨a, rfl, ha⟩⟩ := shs.at hx
    obtain ⟨b0, b1⟩ := lq_all bq hn i
    have qb := bq q (List.mem_of_getElem? hq)
    have g0 := gI_pos_right (a := lqF (qs.take i) 1) (b := (q.den : Int)) (by have := q.den_pos; omega)
    have gb : Bt 8000 (gI (lqF (qs.take i) 1) (q.den : Int)) := (qb.2.gr (by have := q.den_pos; omega)).mono (by decide)
    refine ⟨_, rfl, _, rfl, _, rfl, a, _, _, _, rfl, rfl, ha, rfl, _, _, rfl, _, _, rfl, rfl, ⟨g0, gb⟩, _, rfl, a, _, _, _, rfl, rfl, ha, rfl, _, _, rfl, rfl, ⟨(b1.ediv g0).mono (by decide), qb.2.mono (by decide)⟩, ?_⟩
    exact ⟨rfl, _, by rw [lq_snoc hq]; rfl⟩
  · rintro σ H2 ⟨rfl, o, rfl⟩
    rw [xl, List.take_length]
    obtain ⟨b0, b1⟩ := lq_all bq hn qs.length
    rw [List.take_length] at b0 b1
    refine ⟨_, rfl, l, rfl, ⟨_, SqL.of hl⟩, comp_lst (xs := xs) (fs := [some (.int (lqF qs 1))]) (fun acc i ys H' => Same H2 H' ∧ ys = iv (tpF (lqF qs 1) (qs.take i))) (by omega) ?_ ?_ ?_ ?_⟩
    · intro acc hacc
      exact ⟨same_new hacc _, rfl⟩
    · rintro acc i ys H' hacc ⟨s', _⟩
      exact s' _ _ hl
    · rintro acc i ys H' x hacc hx hlen ⟨s', rfl⟩ hacc' Q' hQ
      obtain ⟨q, hq, ⟨a, rfl, ha⟩⟩ := shs.at hx
      have qb := bq q (List.mem_of_getElem? hq)
      have d0 : (0 : Int) < (q.den : Int) := by have := q.den_pos; omega
      refine ⟨_, rfl, a, _, _, _, rfl, rfl, s' _ _ ha, rfl, _, rfl, _, rfl, a, _, _, _, rfl, rfl, s' _ _ ha, rfl, _, _, rfl, rfl, ⟨d0, qb.2.mono (by decide)⟩, _, _, rfl, rfl, ⟨qb.1.mono (by decide), (b1.ediv d0).mono (by decide)⟩, hQ _ H' hacc' ⟨same_updN hacc s' _, ?_⟩⟩
      unfold tpF
      rw [List.take_add_one, hq, List.map_append]
      simp
    · rintro acc ys H' hacc ⟨s', rfl⟩ hacc' hlen
      rw [xl, List.take_length] at hacc'
      refine ⟨_, rfl, lz 2 rfl, fun t ht => ?_⟩
      have st := same_new ht (.tup [.ref acc, .int (lqF qs 1)])
      exact k t acc _ (s'.trans st) upd_same (st _ _ hacc')
end
end My
set_option Elab.async false
set_option linter.all false
set_option maxRecDepth 100000
set_option maxHeartbeats 4000000
namespace My
open PySem L2 MA Srt
noncomputable def RwI (H : Hp) (v : V) (r : List Int × Int) : Prop := ∃ a b, v = .ref a ∧ H a = some (.tup [.ref b, .int r.2]) ∧ H b = some (.tup (iv r.1))
noncomputable abbrev RowsI (H : Hp) (xs : List V) (rows : Mp) : Prop := Paired (RwI H) xs rows
theorem RwI.imp {H H' : Hp} {v : V} {r : List Int × Int} (k : ∀ b xs, H b = some (.tup xs) → H' b = some (.tup xs)) (h : RwI H v r) : RwI H' v r := let ⟨a, b, e, h1, h2⟩ := h; ⟨a, b, e, k _ _ h1, k _ _ h2⟩
theorem tup_upd {H : Hp} {d : Addr} {o : HO} (hd : H d = none) : ∀ b xs, H b = some (.tup xs) → upd H d o b = some (.tup xs) := fun b xs e => by rw [upd_ne (ne_of_none e hd)]; exact e
theorem iv_key (k : List Int) : iv k = (k.map (Sum.inl : Int → Key)).map kV := by rw [List.map_map]; rfl
theorem gath_take {rows : Mp} {i : Nat} {r : List Int × Int} (h : rows[i]? = some r) : gath (rows.take (i + 1)) = putM (gath (rows.take i)) r.1 (getM (gath (rows.take i)) r.1 + r.2) := by
  rw [List.take_add_one, h]
  show gath (rows.take i ++ [r]) = _
  rw [gath_snoc]; rfl
theorem gath_len (rows : Mp) : (gath rows).length ≤ rows.length := by
  have : ∀ (rows m : Mp), (rows.foldl addM m).length ≤ m.length + rows.length := by
    intro rows
    induction rows with
    | nil => intro m; simp
    | cons r rows ih =>
      intro m
      rw [List.foldl_cons]
      have h1 := ih (addM m r)
      have h2 : (addM m r).length ≤ m.length + 1 := by
        unfold addM putM
        split
        · simp
        · simp
      rw [List.length_cons]; omega
  have := this rows []
  simpa [gath] using this
section
variable {P : Program} {w : World} {K : PySem.W.Frag} {mg : Str → Option Value} {base : Heap}
noncomputable def spGathered : Sp := fun vs H Q _ => ∃ (l : Addr) (xs : List V) (rows : Mp), vs = [.ref l] ∧ H l = some (.lst xs) ∧ RowsI H xs rows ∧ rows.length ≤ 100000 ∧ ∀ (d : Addr) (H' : Hp), Same H H' → H d = none → H' d = some (dI (gath rows)) → Q (.ref d) H'
theorem ok_gathered (F : FunAt K mg "gathered" ["rows"] s_gathered) : Cal P w K mg base "gathered" ["rows"] 1 spGathered := by
  have S := sc_gathered
  refine F.cal sc_gathered (fun vs H Q E h => ?_) (fun f cdv A outer s H vs Q E hr h => ?_)
  · obtain ⟨l, xs, rows, rfl, _⟩ := h; rfl
  obtain ⟨l, xs, rows, rfl, hl, hr', hz, k⟩ := h
  have hu1 := hu_of hr
  have xl := Paired.length hr'
  refine ⟨_, (@pss_cons _ _ _ _ _ (@ps_set _ _ (1) _ _ _ _ (by exact S.nd) (by rfl) (by first | exact Or.inl rfl | exact Or.inr rfl) pe_dnewT (by first|rfl|decide|exact .inl rfl|exact .inr rfl|(intros; rfl)) (by first|rfl|decide|exact .inl rfl|exact .inr rfl|(intros; rfl))) (@pss_cons _ _ _ _ _ (@ps_for _ _ _ _ _ _ _ _ (by exact PassesOwn.never) (by rfl) (@pi_list _ _ _ _ (pv 0)) (@pg_tup _ _ _ _ _ _ (by rfl) (@pgs_cons _ _ _ _ _ (@pg_name _ _ (2) _ (by exact S.nd) (by rfl) (by first | exact Or.inl rfl | exact Or.inr rfl) (by first|rfl|decide|exact .inl rfl|exact .inr rfl|(intros; rfl))) (@pgs_cons _ _ _ _ _ (@pg_name _ _ (3) _ (by exact S.nd) (by rfl) (by first | exact Or.inl rfl | exact Or.inr rfl) (by first|rfl|decide|exact .inl rfl|exact .inr rfl|(intros; rfl))) pgs_nil (by first|rfl|decide|exact .inl rfl|exact .inr rfl|(intros; rfl))) (by first|rfl|decide|exact .inl rfl|exact .inr rfl|(intros; rfl))) (by first|rfl|decide|exact .inl rfl|exact .inr rfl|(intros; rfl)) (by first|rfl|decide|exact .inl rfl|exact .inr rfl|(intros; rfl))) (@pss_one _ _ _ (@ps_dput _ _ _ _ _ _ _ _ _ (by exact hu1) (pv 1) (pv 2) (@pe_op _ _ _ _ _ _ _ _ op_add (@pe_dget2 _ _ _ _ _ _ _ _ _ (by exact hu1) (pv 1) (pv 2) pe_int (by exact ⟨rfl, rfl, rfl, rfl⟩)) (pv 3)) (by rfl))) (by first|rfl|decide|exact .inl rfl|exact .inr rfl|(intros; rfl))) (@pss_one _ _ _ (@ps_ret _ _ _ _ (pv 1))))), ?_⟩
  intro d hd
  refine ⟨_, rfl, l, rfl, ⟨_, SqL.of (by rw [upd_ne (ne_of_none hl hd)]; exact hl)⟩, for_list (xs := xs) (fun i σ H' => H' = upd H d (dI (gath (rows.take i))) ∧ ∃ o1 o2, σ = [some (.ref l), some (.ref d), o1, o2]) ⟨rfl, _, _, rfl⟩ ?_ ?_ ?_⟩
  · rintro i σ H' _ ⟨rfl, _⟩
    exact SqL.of (by rw [upd_ne (ne_of_none hl hd)]; exact hl)
  · rintro i x σ H' hxi ⟨rfl, o1, o2, rfl⟩
    obtain ⟨r, hri, a, b, rfl, ha, hb⟩ := paired_get hr' hxi
    have ha' := tup_upd (o := dI (gath (rows.take i))) hd _ _ ha
    have hb' := tup_upd (o := dI (gath (rows.take i))) hd _ _ hb
    rw [iv_key] at hb'
    refine ⟨a, _, rfl, SqT.of ha', rfl, _, _, rfl, _, _, rfl, rfl, ?_⟩
    refine ⟨_, rfl, d, rfl, .inr ⟨_, .inl upd_same⟩, _, rfl, _, DGet.t upd_same hb', ?_⟩
    rw [valV_getD]
    refine ⟨_, rfl, _, _, rfl, rfl, _, rfl, _, rfl, d, _, rfl, DPut.t upd_same hb' ?_, ?_⟩
    · rw [List.length_map]
      have := gath_len (rows.take i)
      rw [List.length_take] at this
      rw [sizeLine_eq]; omega
    · rw [putK_dI, upd_upd]
      exact ⟨by rw [gath_take hri]; rfl, _, _, rfl⟩
  · rintro σ H' ⟨rfl, o1, o2, rfl⟩
    rw [xl, List.take_length]
    exact ⟨_, rfl, k d _ (same_new hd _) hd upd_same⟩
end
end My
set_option Elab.async false
set_option linter.all false
set_option maxRecDepth 100000
set_option maxHeartbeats 4000000
namespace My
open PySem L2 MA Srt
noncomputable def fI (p : List Int × Int) : List Int × V := (p.1, .int p.2)
theorem dI_kI (m : Mp) : HO.dT ((m.map fI).map kI) = dI m := by unfold dI; rw [List.map_map]; rfl
theorem sorted_rows {m : Mp} (nd : (keysM m).Nodup) {rs : List (List Int × V)} (h : rs.Perm (m.map fI)) (hr : Rising (rs.map (·.1))) : rs = (rise (keysM m)).map fun k => (k, V.int (getM m k)) := by
  have e1 : rs.map (·.1) = rise (keysM m) := by
    refine rise_eq ?_ hr
    have := h.map (·.1)
    rwa [List.map_map] at this
  rw [← e1, List.map_map]
  conv => lhs; rw [← List.map_id rs]
  refine List.map_congr_left fun r hr' => ?_
  obtain ⟨p, hp, rfl⟩ := List.mem_map.mp (h.mem_iff.mp hr')
  show fI p = (p.1, V.int (getM m p.1))
  rw [getM_mem nd hp]; rfl
theorem tupL {H : Hp} {p : Addr} {ys : List V} {o : HO} (h : H p = some (.lst ys)) : ∀ b xs, H b = some (.tup xs) → upd H p o b = some (.tup xs) := fun b xs e => by rw [upd_ne (ne_of e h (by intro z; cases z))]; exact e
theorem tT_ {σ : St} {H : Hp} {Q : Bool → Hp → Prop} (h : Q true H) : tTT σ H Q := h
theorem none_of {H H' : Hp} {p : Addr} (s : Same H H') (h : H' p = none) : H p = none := by
  cases e : H p with
  | none => rfl
  | some o => rw [s _ _ e] at h; cases h
theorem paired_snoc {α β : Type} {F : α → β → Prop} {xs : List α} {ys : List β} {x : α} {y : β} (h : Paired F xs ys) (r : F x y) : Paired F (xs ++ [x]) (ys ++ [y]) := Paired.snoc h r
theorem take_snoc {α : Type} {l : List α} {i : Nat} {x : α} (h : l[i]? = some x) : l.take (i + 1) = l.take i ++ [x] := by rw [List.take_add_one, h]; rfl
section
variable {P : Program} {w : World} {K : PySem.W.Frag} {mg : Str → Option Value} {base : Heap}
noncomputable def spSpreadOf : Sp := fun vs H Q _ => ∃ (d lb : Addr) (m : Mp) (bs : List Int), vs = [.ref d, .ref lb] ∧ H d = some (dI m) ∧ H lb = some (.lst (iv bs)) ∧ (keysM m).Nodup ∧ m.length < 64 ∧ (∀ b ∈ bs, 0 < b ∧ b < 1000000) ∧ ∀ (l : Addr) (H' : Hp), Same H H' → H l = none → SpAt H' l (sprF m bs.prod) → Q (.ref l) H'
theorem ok_spreadof (T : Txt2 mg) (C_parted : Cal P w K mg base "parted" ["top", "bottoms"] 2 spParted) (F : FunAt K mg "spread_of" ["weights", "bottoms"] s_spread_of) : Cal P w K mg base "spread_of" ["weights", "bottoms"] 3 spSpreadOf := by
  have S := sc_spread_of
  refine F.cal sc_spread_of (fun vs H Q E h => ?_) (fun f cdv A outer s H vs Q E hr h => ?_)
  · obtain ⟨d, lb, m, bs, rfl, _⟩ := h; rfl
  obtain ⟨d, lb, m, bs, rfl, hd, hb, nd, few, hbs, k⟩ := h
  have hu2 := hu2_of hr
  refine ⟨_, (@pss_one _ _ _ (@ps_ret _ _ _ _ (@pe_comp _ _ _ _ _ _ _ _ _ _ _ _ _ (by rfl) (by exact (fun _ _ h => h)) (by decide +kernel) (by rfl) (by decide +kernel) (by exact hfr_of rfl) (by exact Sees.frees ["load", "weight"] [("bottoms", 1)] (fr_cons ⟨rfl, rfl⟩ fr_nil)) (@pi_list _ _ _ _ (@pe_callB _ _ _ _ _ _ _ _ _ (call_sortedI (by rfl) hu2) (by rfl) (by exact T.z_sorted) (by exact bt_sorted) (@pa_consN _ _ _ _ _ (@pe_items _ _ _ _ _ (pv 0) (by first|rfl|decide|exact .inl rfl|exact .inr rfl|(intros; rfl)) (by first|rfl|decide|exact .inl rfl|exact .inr rfl|(intros; rfl))) pa_nil (by first|rfl|decide|exact .inl rfl|exact .inr rfl|(intros; rfl))) (by first|rfl|decide|exact .inl rfl|exact .inr rfl|(intros; rfl)) (by first|rfl|decide|exact .inl rfl|exact .inr rfl|(intros; rfl)) (by first|rfl|decide|exact .inl rfl|exact .inr rfl|(intros; rfl)) (by first|rfl|decide|exact .inl rfl|exact .inr rfl|(intros; rfl)))) (fun _ _ _ _ _ => @pg_tup0 _ _ _ _ _ (2) (by rfl) (@pgs_cons _ _ _ _ _ (@pg_name _ _ (0) _ (by exact (show (["load", "weight", "bottoms"] : List Str).Nodup by decide +kernel)) (by rfl) (by first | exact Or.inl rfl | exact Or.inr rfl) (by first|rfl|decide|exact .inl rfl|exact .inr rfl|(intros; rfl))) (@pgs_cons _ _ _ _ _ (@pg_name _ _ (1) _ (by exact (show (["load", "weight", "bottoms"] : List Str).Nodup by decide +kernel)) (by rfl) (by first | exact Or.inl rfl | exact Or.inr rfl) (by first|rfl|decide|exact .inl rfl|exact .inr rfl|(intros; rfl))) pgs_nil (by first|rfl|decide|exact .inl rfl|exact .inr rfl|(intros; rfl))) (by first|rfl|decide|exact .inl rfl|exact .inr rfl|(intros; rfl))) (by first|rfl|decide|exact .inl rfl|exact .inr rfl|(intros; rfl)) (by first|rfl|decide|exact .inl rfl|exact .inr rfl|(intros; rfl))) (fun _ _ _ _ _ => pts_nil) (fun _ _ _ _ _ => (@pe_tup _ _ _ _ _ (@pa_consN _ _ _ _ _ (pv 0) (@pa_consN _ _ _ _ _ (@cc _ _ _ _ _ _ _ _ _ _ (by exact C_parted) (by exact (hr.mono (by decide))) (@pa_consN _ _ _ _ _ (pv 1) (@pa_consN _ _ _ _ _ (pv 2) pa_nil (by first|rfl|decide|exact .inl rfl|exact .inr rfl|(intros; rfl))) (by first|rfl|decide|exact .inl rfl|exact .inr rfl|(intros; rfl))) (by first|rfl|decide|exact .inl rfl|exact .inr rfl|(intros; rfl)) (by first|rfl|decide|exact .inl rfl|exact .inr rfl|(intros; rfl)) (by first|rfl|decide|exact .inl rfl|exact .inr rfl|(intros; rfl)) (by first|rfl|decide|exact .inl rfl|exact .inr rfl|(intros; rfl))) pa_nil (by first|rfl|decide|exact .inl rfl|exact .inr rfl|(intros; rfl))) (by first|rfl|decide|exact .inl rfl|exact .inr rfl|(intros; rfl))))) (by first|rfl|decide|exact .inl rfl|exact .inr rfl|(intros; rfl))))), ?_⟩
  refine ⟨_, rfl, d, _, rfl, .inl hd, fun v hv => ?_⟩
  have s1 := same_new hv (itV v d)
  refine ⟨v, d, m.map fI, rfl, upd_same, .inl (by rw [dI_kI]; exact s1 _ _ hd), by simpa using few, fun H2 q as rs s2 hq pm ri pr => ?_⟩
  have e := sorted_rows nd pm ri
  subst e
  have s3 := same_new hq (.lst (as.map V.ref))
  have sA := s1.trans (s2.trans s3)
  have al : as.length = (rise (keysM m)).length := by have := Paired.length pr; simpa using this
  have kl : (rise (keysM m)).length = m.length := by rw [(rise_perm _).length_eq]; simp [keysM]
  refine ⟨q, rfl, ⟨_, SqL.of upd_same⟩, comp_Y (yields_lst (xs := as.map V.ref)) (fun p i ys σ' H' => Same (upd H2 q (.lst (as.map V.ref))) H' ∧ (∃ o1 o2, σ' = [o1, o2, some (.ref lb)]) ∧ ys.length = i ∧ Paired (RwAt H') ys ((sprF m bs.prod).take i)) (by simp; omega) ?_ ?_ ?_ ?_⟩
  · intro p hp
    exact ⟨same_new hp _, ⟨_, _, rfl⟩, rfl, .nil⟩
  · rintro p i ys σ' H' hp ⟨s', _⟩
    exact s' _ _ upd_same
  · rintro p i ys σ' H' x H'' hp hi hl ⟨s', ⟨o1, o2, rfl⟩, yl, pr'⟩ hp' ⟨rfl, hx⟩ Q1 Q2 h1 h2
    rw [List.getElem?_map, Option.map_eq_some_iff] at hx
    obtain ⟨a, ha, rfl⟩ := hx
    obtain ⟨r, hri, b, hb1, hb2, hb3⟩ := paired_get pr ha
    rw [List.getElem?_map, Option.map_eq_some_iff] at hri
    obtain ⟨kk, hk1, rfl⟩ := hri
    have ha' := (s3.trans s') _ _ hb3
    have hb' := (s2.trans (s3.trans s')) _ _ hb1
    refine ⟨a, _, rfl, ha', rfl, _, _, rfl, _, _, rfl, rfl, ?_⟩
    refine tT_ (iteT ?_)
    refine ⟨_, rfl, _, rfl, _, rfl, _, lb, bs, rfl, (sA.trans s') _ _ hb, hbs, fun v2 H5 s5 pa => ?_⟩
    rw [parted_q _ bs rfl fun b hb => (hbs b hb).1] at pa
    refine ⟨lz 2 rfl, fun t ht => h1 _ _ _ ?_ ?_⟩
    · exact same_new ht _ _ _ (s5 _ _ hp')
    · have s6 := same_new ht (.tup [.ref b, v2])
      have hp6 := s6 _ _ (s5 _ _ hp')
      refine ⟨same_updN hp (s'.trans (s5.trans s6)) _, ⟨_, _, rfl⟩, by simp [yl], ?_⟩
      have hs : (sprF m bs.prod)[i]? = some (kk, Rat.divInt (getM m kk) bs.prod) := by unfold sprF; rw [List.getElem?_map, hk1]; rfl
      rw [take_snoc hs]
      refine paired_snoc (Paired.mapP pr' fun _ _ z => z.imp fun b xs e => tupL hp6 _ _ ((s5.trans s6) _ _ e)) ⟨t, b, v2, rfl, tupL hp6 _ _ upd_same, tupL hp6 _ _ ((s5.trans s6) _ _ hb'), ?_⟩
      obtain ⟨c, e2, h3⟩ := pa
      exact ⟨c, e2, tupL hp6 _ _ (s6 _ _ h3)⟩
  · rintro p ys σ' H' hp ⟨s', _, yl, pr'⟩ hp' hl
    refine k p H' (sA.trans s') ?_ ⟨ys, hp', ?_⟩
    · exact none_of sA hp
    · rw [List.length_map, al] at pr'
      have : (sprF m bs.prod).length = (rise (keysM m)).length := by simp [sprF]
      rw [← this, List.take_length] at pr'
      exact pr'
end
end My
set_option Elab.async false
set_option linter.all false
set_option maxRecDepth 100000
set_option maxHeartbeats 4000000
namespace My
open PySem L2 MA Srt
noncomputable def wtF (B : Int) (rs : Spd) : Mp := rs.map fun r => (r.1, r.2.num * (B / (r.2.den : Int)))
theorem wt_keys (B : Int) (rs : Spd) : keysM (wtF B rs) = rs.map (·.1) := by unfold keysM wtF; rw [List.map_map]; rfl
theorem put_new {m : Mp} {k : List Int} {v : Int} (h : k ∉ keysM m) : putM m k v = m ++ [(k, v)] := by
  unfold putM; rw [if_neg fun z => h (hasM_iff.mp z)]
section
variable {P : Program} {w : World} {K : PySem.W.Frag} {mg : Str → Option Value} {base : Heap}
noncomputable def spWeightsOf : Sp := fun vs H Q _ => ∃ (l : Addr) (rs : Spd), vs = [.ref l] ∧ SpAt H l rs ∧ (rs.map (·.1)).Nodup ∧ (∀ r ∈ rs, SB 50 r.2) ∧ rs.length ≤ 24 ∧
  ∀ (t d : Addr) (H' : Hp), Same H H' → H' t = some (.tup [.ref d, .int (lqF (rs.map (·.2)) 1)]) → H d = none → H' d = some (dI (wtF (lqF (rs.map (·.2)) 1) rs)) → Q (.ref t) H'
theorem ok_weightsof (T : Txt2 mg) (C_weighed : Cal P w K mg base "weighed" ["some"] 2 spWeighQ) (F : FunAt K mg "weights_of" ["spread"] s_weights_of) : Cal P w K mg base "weights_of" ["spread"] 3 spWeightsOf := by
  have S := sc_weights_of
  refine F.cal sc_weights_of (fun vs H Q E h => ?_) (fun f cdv A outer s H vs Q E hr h => ?_)
  · obtain ⟨l, rs, rfl, _⟩ := h; rfl
  obtain ⟨l, rs, rfl, ⟨xs, hl, rws⟩, nd, sb, hz, k⟩ := h
  have hu1 := hu_of hr
  have xl := Paired.length rws
  refine ⟨_, (@pss_cons _ _ _ _ _ (@ps_asg _ _ _ _ _ _ (@cc _ _ _ _ _ _ _ _ _ _ (by exact C_weighed) (by exact (hr.mono (by decide))) (@pa_consN _ _ _ _ _ (@pe_comp _ _ _ _ _ _ _ _ _ _ _ _ _ (by rfl) (by exact (fun _ _ h => h)) (by decide +kernel) (by rfl) (by decide +kernel) (by exact hfr_of rfl) (by exact Sees.frees ["load", "part"] [] fr_nil) (@pi_list _ _ _ _ (pv 0)) (fun _ _ _ _ _ => @pg_tup0 _ _ _ _ _ (2) (by rfl) (@pgs_cons _ _ _ _ _ (@pg_name _ _ (0) _ (by exact (show (["load", "part"] : List Str).Nodup by decide +kernel)) (by rfl) (by first | exact Or.inl rfl | exact Or.inr rfl) (by first|rfl|decide|exact .inl rfl|exact .inr rfl|(intros; rfl))) (@pgs_cons _ _ _ _ _ (@pg_name _ _ (1) _ (by exact (show (["load", "part"] : List Str).Nodup by decide +kernel)) (by rfl) (by first | exact Or.inl rfl | exact Or.inr rfl) (by first|rfl|decide|exact .inl rfl|exact .inr rfl|(intros; rfl))) pgs_nil (by first|rfl|decide|exact .inl rfl|exact .inr rfl|(intros; rfl))) (by first|rfl|decide|exact .inl rfl|exact .inr rfl|(intros; rfl))) (by first|rfl|decide|exact .inl rfl|exact .inr rfl|(intros; rfl)) (by first|rfl|decide|exact .inl rfl|exact .inr rfl|(intros; rfl))) (fun _ _ _ _ _ => pts_nil) (fun _ _ _ _ _ => (pv 1)) (by first|rfl|decide|exact .inl rfl|exact .inr rfl|(intros; rfl))) pa_nil (by first|rfl|decide|exact .inl rfl|exact .inr rfl|(intros; rfl))) (by first|rfl|decide|exact .inl rfl|exact .inr rfl|(intros; rfl)) (by first|rfl|decide|exact .inl rfl|exact .inr rfl|(intros; rfl)) (by first|rfl|decide|exact .inl rfl|exact .inr rfl|(intros; rfl)) (by first|rfl|decide|exact .inl rfl|exact .inr rfl|(intros; rfl))) (@pg_tup _ _ _ _ _ _ (by rfl) (@pgs_cons _ _ _ _ _ (@pg_name _ _ (1) _ (by exact S.nd) (by rfl) (by first | exact Or.inl rfl | exact Or.inr rfl) (by first|rfl|decide|exact .inl rfl|exact .inr rfl|(intros; rfl))) (@pgs_cons _ _ _ _ _ (@pg_name _ _ (2) _ (by exact S.nd) (by rfl) (by first | exact Or.inl rfl | exact Or.inr rfl) (by first|rfl|decide|exact .inl rfl|exact .inr rfl|(intros; rfl))) pgs_nil (by first|rfl|decide|exact .inl rfl|exact .inr rfl|(intros; rfl))) (by first|rfl|decide|exact .inl rfl|exact .inr rfl|(intros; rfl))) (by first|rfl|decide|exact .inl rfl|exact .inr rfl|(intros; rfl)) (by first|rfl|decide|exact .inl rfl|exact .inr rfl|(intros; rfl))) (by first|rfl|decide|exact .inl rfl|exact .inr rfl|(intros; rfl)) (by first|rfl|decide|exact .inl rfl|exact .inr rfl|(intros; rfl)) (by first|rfl|decide|exact .inl rfl|exact .inr rfl|(intros; rfl))) (@pss_one _ _ _ (@ps_ret _ _ _ _ (@pe_tup _ _ _ _ _ (@pa_consN _ _ _ _ _ (@pe_dcompT _ _ _ _ _ _ _ _ _ _ _ _ _ _ _ (by exact hu1) (by rfl) (by exact (fun _ _ h => h)) (by decide +kernel) (by rfl) (by decide +kernel) (by exact hfr_of rfl) (by exact Sees.frees ["top", "load", "part"] [] fr_nil) (@pi_zip _ _ _ _ _ _ _ _ _ (by rfl) (by exact T.z_zip) (@pa_consN _ _ _ _ _ (pv 0) (@pa_consN _ _ _ _ _ (pv 1) pa_nil (by first|rfl|decide|exact .inl rfl|exact .inr rfl|(intros; rfl))) (by first|rfl|decide|exact .inl rfl|exact .inr rfl|(intros; rfl))) (by first|rfl|decide|exact .inl rfl|exact .inr rfl|(intros; rfl)) (by first|rfl|decide|exact .inl rfl|exact .inr rfl|(intros; rfl))) (fun _ _ _ _ _ => (@pg_tup0 _ _ _ _ _ (2) (by rfl) (@pgs_cons _ _ _ _ _ (@pg_tup0 _ _ _ _ _ (2) (by rfl) (@pgs_cons _ _ _ _ _ (@pg_name _ _ (1) _ (by exact (show (["top", "load", "part"] : List Str).Nodup by decide +kernel)) (by rfl) (by first | exact Or.inl rfl | exact Or.inr rfl) (by first|rfl|decide|exact .inl rfl|exact .inr rfl|(intros; rfl))) (@pgs_cons _ _ _ _ _ (@pg_name _ _ (2) _ (by exact (show (["top", "load", "part"] : List Str).Nodup by decide +kernel)) (by rfl) (by first | exact Or.inl rfl | exact Or.inr rfl) (by first|rfl|decide|exact .inl rfl|exact .inr rfl|(intros; rfl))) pgs_nil (by first|rfl|decide|exact .inl rfl|exact .inr rfl|(intros; rfl))) (by first|rfl|decide|exact .inl rfl|exact .inr rfl|(intros; rfl))) (by first|rfl|decide|exact .inl rfl|exact .inr rfl|(intros; rfl)) (by first|rfl|decide|exact .inl rfl|exact .inr rfl|(intros; rfl))) (@pgs_cons _ _ _ _ _ (@pg_name _ _ (0) _ (by exact (show (["top", "load", "part"] : List Str).Nodup by decide +kernel)) (by rfl) (by first | exact Or.inl rfl | exact Or.inr rfl) (by first|rfl|decide|exact .inl rfl|exact .inr rfl|(intros; rfl))) pgs_nil (by first|rfl|decide|exact .inl rfl|exact .inr rfl|(intros; rfl))) (by first|rfl|decide|exact .inl rfl|exact .inr rfl|(intros; rfl))) (by first|rfl|decide|exact .inl rfl|exact .inr rfl|(intros; rfl)) (by first|rfl|decide|exact .inl rfl|exact .inr rfl|(intros; rfl)))) (fun _ _ _ _ _ => pts_nil) (fun _ _ _ _ _ => (pv 1)) (fun _ _ _ _ _ => (pv 0)) (by first|rfl|decide|exact .inl rfl|exact .inr rfl|(intros; rfl))) (@pa_consN _ _ _ _ _ (pv 2) pa_nil (by first|rfl|decide|exact .inl rfl|exact .inr rfl|(intros; rfl))) (by first|rfl|decide|exact .inl rfl|exact .inr rfl|(intros; rfl))))))), ?_⟩
  refine ⟨_, rfl, l, rfl, ⟨_, SqL.of hl⟩, comp_Y (yields_lst (xs := xs)) (fun p i ys σ' H' => Same H H' ∧ (∃ o1 o2, σ' = [o1, o2]) ∧ ys.length = i ∧ Shs H' ys ((rs.take i).map (·.2))) (by omega) ?_ ?_ ?_ ?_⟩
  · intro p hp
    exact ⟨same_new hp _, ⟨_, _, rfl⟩, rfl, .nil⟩
  · rintro p i ys σ' H' hp ⟨s', _⟩
    exact s' _ _ hl
  · rintro p i ys σ' H' x H'' hp hi hl' ⟨s', ⟨o1, o2, rfl⟩, yl, sh⟩ hp' ⟨rfl, hx⟩ Q1 Q2 h1 h2
    obtain ⟨r, hri, a, b, v2, rfl, ha, hb, hv⟩ := paired_get rws hx
    refine ⟨a, _, rfl, s' _ _ ha, rfl, _, _, rfl, _, _, rfl, rfl, ?_⟩
    refine tT_ (iteT ⟨_, rfl, h1 _ _ _ hp' ⟨same_updN hp s' _, ⟨_, _, rfl⟩, by simp [yl], ?_⟩⟩)
    rw [take_snoc hri, List.map_append]
    exact Shs.snoc (shUpdL hp' (hv.same s')) (Shs.updL hp' sh)
  · rintro p ys σ' H' hp ⟨s', _, yl, sh⟩ hp' hl'
    rw [xl, List.take_length] at sh
    refine ⟨p, ys, rs.map (·.2), rfl, hp', sh, fun q hq => ?_, by simpa using hz, fun t c H2 s2 ht hc => ?_⟩
    · obtain ⟨r, hr', rfl⟩ := List.mem_map.mp hq
      exact sb r hr'
    refine ⟨t, _, rfl, SqT.of ht, rfl, _, _, rfl, _, _, rfl, rfl, ?_⟩
    have sA := s'.trans s2
    have tl : (iv (tpF (lqF (rs.map (·.2)) 1) (rs.map (·.2)))).length = xs.length := by simp [tpF, xl]
    generalize hB : lqF (rs.map (·.2)) 1 = B at *
    refine ⟨_, rfl, _, rfl, l, c, rfl, ⟨_, SqL.of (sA _ _ hl)⟩, ⟨_, SqL.of hc⟩, fun d hd => loopW_Y (yields_zip (xs := xs) (ys := iv (tpF B (rs.map (·.2)))) tl.symm) (fun i σ' H' => Same H2 H' ∧ (∃ o1 o2 o3, σ' = [o1, o2, o3]) ∧ H' d = some (dI (wtF B (rs.take i)))) ?_ ?_ ?_ ?_⟩
    · exact ⟨same_new hd _, ⟨_, _, _, rfl⟩, upd_same⟩
    · rintro i σ' H' ⟨s3, _⟩
      exact ⟨(sA.trans s3) _ _ hl, s3 _ _ hc⟩
    · rintro i x σ' H3 H4 hi ⟨s3, ⟨o1, o2, o3, rfl⟩, hd3⟩ ⟨q, y, z, rfl, hq, rfl, hy, hz'⟩ R hR
      obtain ⟨r, hri, a, b, v2, rfl, ha, hb, hv⟩ := paired_get rws hy
      have s4 := same_new hq (.tup [.ref a, z])
      have sB := sA.trans (s3.trans s4)
      have ez : z = .int (r.2.num * (B / (r.2.den : Int))) := by
        have : (iv (tpF B (rs.map (·.2))))[i]? = some (.int (r.2.num * (B / (r.2.den : Int)))) := by simp [tpF, hri]
        rw [this] at hz'; exact (Option.some.inj hz').symm
      subst ez
      refine ⟨q, _, rfl, upd_same, rfl, _, _, rfl, a, _, rfl, sB _ _ ha, rfl, _, _, rfl, _, _, rfl, rfl, _, _, rfl, rfl, ?_⟩
      have hb4 := sB _ _ hb
      rw [iv_key] at hb4
      refine tT_ (iteT ⟨_, rfl, _, rfl, b, _, _, rfl, hb4, s4 _ _ hd3, ?_, hR _ _ ⟨same_updN hd (s3.trans s4) _, ⟨_, _, _, rfl⟩, ?_⟩⟩)
      · simp [wtF]; omega
      · rw [upd_same, putK_dI]
        congr 2
        rw [put_new]
        · rw [take_snoc hri]; simp [wtF]
        · rw [wt_keys]
          intro zz
          have := List.nodup_append.mp (show ((rs.take i).map (·.1) ++ [r.1]).Nodup from by
            have e : (rs.take (i + 1)).map (·.1) = (rs.take i).map (·.1) ++ [r.1] := by rw [take_snoc hri, List.map_append]; rfl
            rw [← e, List.map_take]
            exact nd.sublist (List.take_sublist _ _))
          exact this.2.2 _ zz _ (by simp) rfl
    · rintro σ' H3 ⟨s3, _, hd3⟩
      rw [xl, List.take_length] at hd3
      refine ⟨_, rfl, lz 2 rfl, fun t' ht' => ?_⟩
      have s5 := same_new ht' (.tup [.ref d, .int B])
      exact k t' d _ (sA.trans (s3.trans s5)) upd_same (none_of sA hd) (s5 _ _ hd3)
end
end My
set_option Elab.async false
set_option linter.all false
set_option maxRecDepth 100000
set_option maxHeartbeats 4000000
namespace My
open PySem L2 MA Srt
noncomputable def SmB (p : Addr) (H H' : Hp) : Prop := ∀ b u, b ≠ p → H b = some u → H' b = some u
theorem SmB.refl (p : Addr) (H : Hp) : SmB p H H := fun _ _ _ e => e
theorem SmB.trans {p : Addr} {H H1 H2 : Hp} (a : SmB p H H1) (b : SmB p H1 H2) : SmB p H H2 := fun c u n e => b c u n (a c u n e)
theorem SmB.of {p : Addr} {H H' : Hp} (s : Same H H') : SmB p H H' := fun b u _ e => s b u e
theorem SmB.upd {p : Addr} {H H' : Hp} (s : SmB p H H') (o : HO) : SmB p H (L2.upd H' p o) := fun b u n e => by rw [upd_ne n]; exact s b u n e
theorem SmB.tup {p : Addr} {H H' : Hp} {ys : List V} (s : SmB p H H') (hp : H p = some (.lst ys)) : ∀ b xs, H b = some (.tup xs) → H' b = some (.tup xs) := fun b xs e => s b _ (ne_of e hp (by intro z; cases z)) e
noncomputable def comeF (c : List Int) (m : Mp) : Mp := gath (rowsM m (gainF c c.length))
theorem rows_take {m : Mp} {g : List Int → Mp} {i : Nat} {p : List Int × Int} (h : m[i]? = some p) : rowsM (m.take (i + 1)) g = rowsM (m.take i) g ++ (g p.1).map fun q => (q.1, p.2 * q.2) := by
  rw [take_snoc h]; unfold rowsM; rw [List.flatMap_append]; simp
theorem gain_len (c : List Int) (n : Nat) (l : List Int) : (gainF c n l).length ≤ n := by
  induction n with
  | zero => simp [gainF]
  | succ n ih =>
    rw [gain_succ, List.length_append]
    split <;> simp <;> omega
theorem rows_len (m : Mp) (g : List Int → Mp) (n : Nat) (h : ∀ l, (g l).length ≤ n) : (rowsM m g).length ≤ m.length * n := by
  induction m with
  | nil => simp [rowsM]
  | cons p m ih =>
    have e : rowsM (p :: m) g = (g p.1).map (fun q => (q.1, p.2 * q.2)) ++ rowsM m g := by unfold rowsM; rw [List.flatMap_cons]
    rw [e, List.length_append, List.length_map, List.length_cons, Nat.add_mul]
    have := h p.1
    omega
section
variable {P : Program} {w : World} {K : PySem.W.Frag} {mg : Str → Option Value} {base : Heap}
noncomputable def spCome : Sp := fun vs H Q _ => ∃ (lc d : Addr) (c : List Int) (m : Mp), vs = [.ref lc, .ref d] ∧ H lc = some (.lst (iv c)) ∧ H d = some (dI m) ∧ m.length ≤ 100 ∧ (∀ k ∈ keysM m, k.length = c.length) ∧ c.length ≤ 6 ∧ (∀ x ∈ c, Bt 8000 x) ∧ (∀ x ∈ valsM m, Bt 8000 x) ∧
  ∀ (e : Addr) (H' : Hp), Same H H' → H e = none → H' e = some (dI (comeF c m)) → Q (.ref e) H'
theorem ok_come (T : Txt2 mg) (C_put_at : Cal P w K mg base "put_at" ["load", "rank"] 2 spPutAt) (C_gathered : Cal P w K mg base "gathered" ["rows"] 1 spGathered) (F : FunAt K mg "come" ["chances", "weights"] s_come) : Cal P w K mg base "come" ["chances", "weights"] 3 spCome := by
  have S := sc_come
  refine F.cal sc_come (fun vs H Q E h => ?_) (fun f cdv A outer s H vs Q E hr h => ?_)
  · obtain ⟨lc, d, c, m, rfl, _⟩ := h; rfl
  obtain ⟨lc, d, c, m, rfl, hc, hd, hm, hk, hcl, hcb, hmb, k⟩ := h
  refine ⟨_, (@pss_one _ _ _ (@ps_ret _ _ _ _ (@cc _ _ _ _ _ _ _ _ _ _ (by exact C_gathered) (by exact (hr.mono (by decide))) (@pa_consN _ _ _ _ _ (@pe_thaw _ _ _ (@pe_comp2 _ _ _ _ _ _ _ _ _ _ _ _ _ _ _ _ _ _ _ (by rfl) (by exact (fun _ _ h => h)) (by decide +kernel) (by rfl) (by decide +kernel) (by exact hfr_of rfl) (by exact Sees.frees ["load", "weight", "rank", "chance"] [("chances", 0)] (fr_cons ⟨rfl, rfl⟩ fr_nil)) (@pi_itemsT _ _ _ _ _ _ _ _ (pv 1) (by first|rfl|decide|exact .inl rfl|exact .inr rfl|(intros; rfl)) (by first|rfl|decide|exact .inl rfl|exact .inr rfl|(intros; rfl))) (fun _ _ _ _ _ => (@pg_tup0 _ _ _ _ _ (2) (by rfl) (@pgs_cons _ _ _ _ _ (@pg_name _ _ (0) _ (by exact (show (["load", "weight", "rank", "chance", "chances"] : List Str).Nodup by decide +kernel)) (by rfl) (by first | exact Or.inl rfl | exact Or.inr rfl) (by first|rfl|decide|exact .inl rfl|exact .inr rfl|(intros; rfl))) (@pgs_cons _ _ _ _ _ (@pg_name _ _ (1) _ (by exact (show (["load", "weight", "rank", "chance", "chances"] : List Str).Nodup by decide +kernel)) (by rfl) (by first | exact Or.inl rfl | exact Or.inr rfl) (by first|rfl|decide|exact .inl rfl|exact .inr rfl|(intros; rfl))) pgs_nil (by first|rfl|decide|exact .inl rfl|exact .inr rfl|(intros; rfl))) (by first|rfl|decide|exact .inl rfl|exact .inr rfl|(intros; rfl))) (by first|rfl|decide|exact .inl rfl|exact .inr rfl|(intros; rfl)) (by first|rfl|decide|exact .inl rfl|exact .inr rfl|(intros; rfl)))) (fun _ _ _ _ _ => pts_nil) (fun _ _ _ _ _ => (@pi_enumL _ _ _ _ _ _ _ _ (by rfl) (by exact T.z_enumerate) (@pa_consN _ _ _ _ _ (pv 4) pa_nil (by first|rfl|decide|exact .inl rfl|exact .inr rfl|(intros; rfl))) (by first|rfl|decide|exact .inl rfl|exact .inr rfl|(intros; rfl)))) (fun _ _ _ _ _ => (@pg_tup0 _ _ _ _ _ (2) (by rfl) (@pgs_cons _ _ _ _ _ (@pg_name _ _ (2) _ (by exact (show (["load", "weight", "rank", "chance", "chances"] : List Str).Nodup by decide +kernel)) (by rfl) (by first | exact Or.inl rfl | exact Or.inr rfl) (by first|rfl|decide|exact .inl rfl|exact .inr rfl|(intros; rfl))) (@pgs_cons _ _ _ _ _ (@pg_name _ _ (3) _ (by exact (show (["load", "weight", "rank", "chance", "chances"] : List Str).Nodup by decide +kernel)) (by rfl) (by first | exact Or.inl rfl | exact Or.inr rfl) (by first|rfl|decide|exact .inl rfl|exact .inr rfl|(intros; rfl))) pgs_nil (by first|rfl|decide|exact .inl rfl|exact .inr rfl|(intros; rfl))) (by first|rfl|decide|exact .inl rfl|exact .inr rfl|(intros; rfl))) (by first|rfl|decide|exact .inl rfl|exact .inr rfl|(intros; rfl)) (by first|rfl|decide|exact .inl rfl|exact .inr rfl|(intros; rfl)))) (fun _ _ _ _ _ => (@pts_one _ _ _ (@pt_cmpR _ _ _ _ _ _ _ _ op_gt (pv 3) pe_int (by exact (nomark _))))) (fun _ _ _ _ _ => (@pe_tup _ _ _ _ _ (@pa_consN _ _ _ _ _ (@cc _ _ _ _ _ _ _ _ _ _ (by exact C_put_at) (by exact (hr.mono (by decide))) (@pa_consN _ _ _ _ _ (pv 0) (@pa_consN _ _ _ _ _ (pv 2) pa_nil (by first|rfl|decide|exact .inl rfl|exact .inr rfl|(intros; rfl))) (by first|rfl|decide|exact .inl rfl|exact .inr rfl|(intros; rfl))) (by first|rfl|decide|exact .inl rfl|exact .inr rfl|(intros; rfl)) (by first|rfl|decide|exact .inl rfl|exact .inr rfl|(intros; rfl)) (by first|rfl|decide|exact .inl rfl|exact .inr rfl|(intros; rfl)) (by first|rfl|decide|exact .inl rfl|exact .inr rfl|(intros; rfl))) (@pa_consN _ _ _ _ _ (@pe_op _ _ _ _ _ _ _ _ op_mulB (pv 1) (pv 3)) pa_nil (by first|rfl|decide|exact .inl rfl|exact .inr rfl|(intros; rfl))) (by first|rfl|decide|exact .inl rfl|exact .inr rfl|(intros; rfl))))) (by first|rfl|decide|exact .inl rfl|exact .inr rfl|(intros; rfl)) (by first|rfl|decide|exact .inl rfl|exact .inr rfl|(intros; rfl)))) pa_nil (by first|rfl|decide|exact .inl rfl|exact .inr rfl|(intros; rfl))) (by first|rfl|decide|exact .inl rfl|exact .inr rfl|(intros; rfl)) (by first|rfl|decide|exact .inl rfl|exact .inr rfl|(intros; rfl)) (by first|rfl|decide|exact .inl rfl|exact .inr rfl|(intros; rfl)) (by first|rfl|decide|exact .inl rfl|exact .inr rfl|(intros; rfl))))), ?_⟩
  refine ⟨d, _, hd, ?_⟩
  refine ⟨_, rfl, d, _, rfl, .inl ⟨hd, fun o => ?_⟩⟩
  intro p hp
  have zz : ∀ {b : Addr} {u : HO}, H b = some u → b ≠ d → upd H d (.frz o (dI m)) b = some u := fun e n => by rw [upd_ne n]; exact e
  have hcd : lc ≠ d := ne_of hc hd (by intro z; cases z)
  have hpd : p ≠ d := fun z => by rw [z, upd_same] at hp; cases hp
  have hpn : H p = none := by rw [upd_ne hpd] at hp; exact hp
  have dk : dI m = .dT ((m.map fI).map kI) := (dI_kI m).symm
  have hlp : lc ≠ p := ne_of_none hc hpn
  refine loopW_Y (yields_itemsT (kws := m.map fI)) (fun i σ' H' => Same (upd H d (.frz o (dI m))) H' ∧ (∃ o1 o2 o3 o4, σ' = [o1, o2, o3, o4, some (.ref lc)]) ∧ ∃ ys, H' p = some (.lst ys) ∧ RowsI H' ys (rowsM (m.take i) (gainF c c.length))) ?_ ?_ ?_ ?_
  · exact ⟨same_new hp _, ⟨_, _, _, _, rfl⟩, [], upd_same, .nil⟩
  · rintro i σ' H' ⟨s', _⟩
    rw [← dk]
    exact s' _ _ upd_same
  · rintro i x σ' H1 H2 hi ⟨s1, ⟨o1, o2, o3, o4, rfl⟩, ys, hy, ry⟩ ⟨q, b, kw, rfl, hq, hb, rfl, hkw⟩ R hR
    rw [List.getElem?_map, Option.map_eq_some_iff] at hkw
    obtain ⟨e, he, rfl⟩ := hkw
    have em : e ∈ m := List.mem_of_getElem? he
    have s2 := same_new hq (.tup [.ref b, (fI e).2])
    refine ⟨q, _, rfl, upd_same, rfl, _, _, rfl, _, _, rfl, rfl, ?_⟩
    refine tT_ (iteT ⟨_, rfl, lc, _, rfl, (s1.trans s2) _ _ (zz hc hcd), ?_⟩)
    have hyq := s2 _ _ hy
    refine loopW_Y (yields_ELL (xs := iv c)) (fun j σ' H' => SmB p (upd H1 q (.tup [.ref b, (fI e).2])) H' ∧ (∃ o3 o4, σ' = [some (.ref b), some (.int e.2), o3, o4, some (.ref lc)]) ∧ ∃ zs, H' p = some (.lst zs) ∧ RowsI H' zs (rowsM (m.take i) (gainF c c.length) ++ (gainF c j e.1).map fun q => (q.1, e.2 * q.2))) ?_ ?_ ?_ ?_
    · refine ⟨.refl _ _, ⟨_, _, rfl⟩, ys, hyq, ?_⟩
      rw [show gainF c 0 e.1 = [] from rfl, List.map_nil, List.append_nil]
      exact Paired.mapP ry fun _ _ z => z.imp fun b xs e => s2 _ _ e
    · rintro j σ' H' ⟨s3, _⟩
      exact s3 _ _ hlp ((s1.trans s2) _ _ (zz hc hcd))
    · rintro j x σ' H3 H4 hj ⟨s3, ⟨o3, o4, rfl⟩, zs, hzs, rz⟩ ⟨t, y, rfl, ht, rfl, hy'⟩ R2 hR2
      have hj' : j < c.length := by simpa using hj
      have ey : y = .int c[j] := by
        rw [List.getElem?_map, List.getElem?_eq_getElem hj'] at hy'
        exact (Option.some.inj hy').symm
      subst ey
      have s4 := same_new ht (.tup [.int (j : Int), .int c[j]])
      refine ⟨t, _, rfl, upd_same, rfl, _, _, rfl, _, _, rfl, rfl, ?_⟩
      have hz4 := s4 _ _ hzs
      have rz4 : RowsI (upd H3 t (.tup [.int (j : Int), .int c[j]])) zs _ := Paired.mapP rz fun _ _ z => z.imp fun b xs e => s4 _ _ e
      have s34 := s3.trans (.of s4)
      refine ⟨_, rfl, _, _, rfl, rfl, _, rfl, ?_⟩
      have ec : c.getD j 0 = c[j] := by simp [hj']
      refine ite2 (fun c0 => ?_) (fun c0 => ?_)
      · have c0' : 0 < c[j] := of_decide_eq_true c0
        have hb4 := s34.tup hyq _ _ (s2 _ _ hb)
        have ek : e.1.length = c.length := hk _ (List.mem_map_of_mem em)
        have jl : j < e.1.length := by omega
        have hx : e.1[j]? = some (e.1.getD j 0) := by simp [jl]
        refine ⟨_, rfl, _, rfl, b, e.1, j, _, rfl, hb4, by omega, hx, fun b' ms H5 pm dn hb' s5 => ?_⟩
        have em2 := fall_eq pm dn
        subst em2
        refine ⟨_, rfl, _, rfl, _, _, rfl, rfl, ⟨(hmb e.2 (List.mem_map_of_mem em)).mono (by decide), (hcb c[j] (List.getElem_mem hj')).mono (by decide)⟩, lz 2 rfl, fun t' ht' => ?_⟩
        have s6 := same_new ht' (.tup [.ref b', .int (e.2 * c[j])])
        have hp6 := (s5.trans s6) _ _ hz4
        refine ⟨zs, ?_, hp6, hR2 _ _ ⟨(s34.trans (.of (s5.trans s6))).upd _, ⟨_, _, rfl⟩, _, upd_same, ?_⟩⟩
        · have h1 := Paired.length rz
          have h2 := rows_len (m.take i) (gainF c c.length) c.length fun l => gain_len c c.length l
          have h3 := gain_len c j e.1
          rw [List.length_append, List.length_map] at h1
          rw [List.length_take] at h2
          have h4 : min i m.length * c.length ≤ 100 * 6 := Nat.mul_le_mul (by omega) hcl
          rw [h1, sizeLine_eq]; omega
        · rw [gain_succ, ec, if_pos c0', List.map_append, ← List.append_assoc]
          exact paired_snoc (Paired.mapP rz4 fun _ _ z => z.imp fun b xs e => tupL hp6 _ _ ((s5.trans s6) _ _ e)) ⟨t', b', rfl, tupL hp6 _ _ upd_same, tupL hp6 _ _ (s6 _ _ hb')⟩
      · have c0' : ¬ 0 < c[j] := by simpa using c0
        refine hR2 _ _ ⟨s34, ⟨_, _, rfl⟩, zs, hz4, ?_⟩
        rw [gain_succ, ec, if_neg c0', List.append_nil]
        exact rz4
    · rintro σ' H3 ⟨s3, ⟨o3, o4, rfl⟩, zs, hzs, rz⟩
      refine hR _ _ ⟨fun b u e => s3 b u (fun z => by rw [z] at e; rw [show upd H d (.frz o (dI m)) p = none from hp] at e; cases e) ((s1.trans s2) _ _ e), ⟨_, _, _, _, rfl⟩, zs, hzs, ?_⟩
      rw [rows_take he]
      have : (iv c).length = c.length := by simp
      rw [this] at rz
      exact rz
  · rintro σ' H1 ⟨s1, ⟨o1, o2, o3, o4, rfl⟩, ys, hy, ry⟩
    have hml : (m.map fI).length = m.length := by simp
    rw [hml, List.take_length] at ry
    refine ⟨o, _, s1 _ _ upd_same, ?_⟩
    have hpd1 : upd H1 d (dI m) p = some (.lst ys) := by rw [upd_ne hpd]; exact hy
    have sH : Same H (upd H1 d (dI m)) := fun b u e => by
      by_cases z : b = d
      · rw [z, upd_same]; rw [z, hd] at e; exact e
      · rw [upd_ne z]; exact s1 _ _ (zz e z)
    refine ⟨p, ys, rowsM m (gainF c c.length), rfl, hpd1, Paired.mapP ry fun _ _ z => z.imp fun b xs e => ?_, ?_, fun e H' s' he hH' => k e H' (sH.trans s') (none_of sH he) hH'⟩
    · rw [upd_ne (fun z => by rw [z, s1 _ _ upd_same] at e; cases e)]; exact e
    · have h2 := rows_len m (gainF c c.length) c.length fun l => gain_len c c.length l
      have h4 : m.length * c.length ≤ 100 * 6 := Nat.mul_le_mul hm hcl
      omega
end
end My
set_option Elab.async false
set_option linter.all false
set_option maxRecDepth 100000
set_option maxHeartbeats 4000000
namespace My
open PySem L2 MA Srt
noncomputable def itF (c : List Int) : Nat → Mp → Mp
  | 0, m => m
  | k + 1, m => comeF c (itF c k m)
theorem putL_len (l : List Int) (r : Nat) : (putL l r).length = l.length := by unfold putL; rw [fall_length, List.length_set]
theorem come_keys {c : List Int} {m : Mp} {n : Nat} (h : ∀ k ∈ keysM m, k.length = n) : ∀ k ∈ keysM (comeF c m), k.length = n := by
  intro k hk
  unfold comeF at hk
  rw [gath_keys, keys_rows] at hk
  obtain ⟨l, hl, hk⟩ := hk
  have : ∀ n', ∀ k ∈ keysM (gainF c n' l), k.length = l.length := by
    intro n'
    induction n' with
    | zero => intro k hk; simp [gainF, keysM] at hk
    | succ n' ih =>
      intro k hk
      rw [gain_succ] at hk
      simp only [keysM, List.map_append, List.mem_append] at hk
      rcases hk with hk | hk
      · exact ih k hk
      · split at hk
        · simp at hk; subst hk; exact putL_len _ _
        · simp at hk
  rw [this _ k hk, h l hl]
theorem it_keys {c : List Int} {m : Mp} {n : Nat} (h : ∀ k ∈ keysM m, k.length = n) : ∀ j, ∀ k ∈ keysM (itF c j m), k.length = n
  | 0 => h
  | j + 1 => come_keys (it_keys h j)
theorem it_nodup {c : List Int} {m : Mp} (h : (keysM m).Nodup) : ∀ j, (keysM (itF c j m)).Nodup
  | 0 => h
  | _ + 1 => gath_nodup _
noncomputable def botF (qs : List Rat) : Int := lqF qs 1
noncomputable def afterF (qs : List Rat) (rs : Spd) (k : Nat) : Spd := sprF (itF (tpF (botF qs) qs) k (wtF (botF (rs.map (·.2))) rs)) (botF (rs.map (·.2)) * botF qs ^ k)
structure Fit (qs : List Rat) (rs : Spd) (k : Nat) : Prop where
  ne : rs ≠ []
  nd : (rs.map (·.1)).Nodup
  ln : ∀ r ∈ rs, r.1.length = qs.length
  q6 : qs.length ≤ 6
  sr : ∀ r ∈ rs, SB 50 r.2
  sq : ∀ q ∈ qs, SB 50 q
  few : rs.length ≤ 24
  bB : botF (rs.map (·.2)) < 1000000
  bb : botF qs < 1000000
  k1 : k ≤ 100
  cap : ∀ j ≤ k, (itF (tpF (botF qs) qs) j (wtF (botF (rs.map (·.2))) rs)).length ≤ 60
  bits : ∀ j ≤ k, ∀ x ∈ valsM (itF (tpF (botF qs) qs) j (wtF (botF (rs.map (·.2))) rs)), Bt 8000 x
theorem prod_rep (B b : Int) (k : Nat) : ([B] ++ List.replicate k b).prod = B * b ^ k := by
  rw [List.prod_append, List.prod_cons, List.prod_nil, Int.mul_one]
  congr 1
  induction k with
  | zero => simp
  | succ k ih => rw [List.replicate_succ, List.prod_cons, ih, Int.pow_succ, Int.mul_comm]
section
variable {P : Program} {w : World} {K : PySem.W.Frag} {mg : Str → Option Value} {base : Heap}
noncomputable def spAskB : Sp := fun vs H Q _ => ∃ (a b : Addr) (xs ys : List V), vs = [.ref a, .ref b] ∧ H a = some (.tup xs) ∧ H b = some (.tup ys) ∧ xs.length = ys.length ∧ Q .non H
theorem ok_askB (T : Txt2 mg) (F : FunAt K mg "ask_boxes" ["ranks", "load"] s_ask_boxes) : Cal P w K mg base "ask_boxes" ["ranks", "load"] 1 spAskB := by
  have S := sc_ask_boxes
  refine F.cal sc_ask_boxes (fun vs H Q E h => ?_) (fun f cdv A outer s H vs Q E hr h => ?_)
  · obtain ⟨a, b, xs, ys, rfl, _⟩ := h; rfl
  obtain ⟨a, b, xs, ys, rfl, ha, hb, hl, k⟩ := h
  refine ⟨_, (@pss_one _ _ _ (@ps_if _ _ _ _ _ _ _ _ (@pt_cmpR _ _ _ _ _ _ _ _ op_ne (@pe_callB _ _ _ _ _ _ _ _ _ call_len_seq (by rfl) (by exact T.z_len) (by exact bt_len) (@pa_consN _ _ _ _ _ (pv 0) pa_nil (by first|rfl|decide|exact .inl rfl|exact .inr rfl|(intros; rfl))) (by first|rfl|decide|exact .inl rfl|exact .inr rfl|(intros; rfl)) (by first|rfl|decide|exact .inl rfl|exact .inr rfl|(intros; rfl)) (by first|rfl|decide|exact .inl rfl|exact .inr rfl|(intros; rfl)) (by first|rfl|decide|exact .inl rfl|exact .inr rfl|(intros; rfl))) (@pe_callB _ _ _ _ _ _ _ _ _ call_len_seq (by rfl) (by exact T.z_len) (by exact bt_len) (@pa_consN _ _ _ _ _ (pv 1) pa_nil (by first|rfl|decide|exact .inl rfl|exact .inr rfl|(intros; rfl))) (by first|rfl|decide|exact .inl rfl|exact .inr rfl|(intros; rfl)) (by first|rfl|decide|exact .inl rfl|exact .inr rfl|(intros; rfl)) (by first|rfl|decide|exact .inl rfl|exact .inr rfl|(intros; rfl)) (by first|rfl|decide|exact .inl rfl|exact .inr rfl|(intros; rfl))) (by exact (nomark _))) (@pss_one _ _ _ ps_never) pss_nil)), ?_⟩
  refine ⟨_, rfl, a, _, rfl, .inr (SqT.of ha), _, rfl, b, _, rfl, .inr (SqT.of hb), rfl, _, rfl, ?_⟩
  exact ite2 (fun c => absurd c (by simp [hl])) fun _ => k
noncomputable def spAfter : Sp := fun vs H Q _ => ∃ (a l : Addr) (xs : List V) (qs : List Rat) (rs : Spd) (k : Nat), vs = [.ref a, .ref l, .int (k : Int)] ∧ H a = some (.tup xs) ∧ Shs H xs qs ∧ SpAt H l rs ∧ Fit qs rs k ∧
  ∀ (l' : Addr) (H' : Hp), Same H H' → H l' = none → SpAt H' l' (afterF qs rs k) → Q (.ref l') H'
theorem ok_after (T : Txt2 mg) {tk : Tok} (hml : mg "MOST_LOADS" = some (.int 60 tk)) (C_ask_boxes : Cal P w K mg base "ask_boxes" ["ranks", "load"] 1 spAskB) (C_weighed : Cal P w K mg base "weighed" ["some"] 2 spWeighQ) (C_weights_of : Cal P w K mg base "weights_of" ["spread"] 3 spWeightsOf)
    (C_come : Cal P w K mg base "come" ["chances", "weights"] 3 spCome) (C_spread_of : Cal P w K mg base "spread_of" ["weights", "bottoms"] 3 spSpreadOf) (F : FunAt K mg "after" ["rule", "spread", "many"] s_after) : Cal P w K mg base "after" ["rule", "spread", "many"] 4 spAfter := by
  have S := sc_after
  refine F.cal sc_after (fun vs H Q E h => ?_) (fun f cdv A outer s H vs Q E hr h => ?_)
  · obtain ⟨a, l, xs, qs, rs, k, rfl, _⟩ := h; rfl
  obtain ⟨a, l, xs, qs, rs, k, rfl, ha, shs, spl, fit, kk⟩ := h
  obtain ⟨ys, hl, rws⟩ := id spl
  have xl := shs.length
  have yl := Paired.length rws
  refine ⟨_, (@pss_cons _ _ _ _ _ (@ps_expr _ _ _ _ (@cc _ _ _ _ _ _ _ _ _ _ (by exact C_ask_boxes) (by exact (hr.mono (by decide))) (@pa_consN _ _ _ _ _ (pv 0) (@pa_consN _ _ _ _ _ (@pe_ix _ _ _ _ _ _ _ ix_tup (@pe_ix _ _ _ _ _ _ _ ix_list (pv 1) pe_int (by exact (fun _ _ => rfl))) pe_int (by exact (fun _ _ => rfl))) pa_nil (by first|rfl|decide|exact .inl rfl|exact .inr rfl|(intros; rfl))) (by first|rfl|decide|exact .inl rfl|exact .inr rfl|(intros; rfl))) (by first|rfl|decide|exact .inl rfl|exact .inr rfl|(intros; rfl)) (by first|rfl|decide|exact .inl rfl|exact .inr rfl|(intros; rfl)) (by first|rfl|decide|exact .inl rfl|exact .inr rfl|(intros; rfl)) (by first|rfl|decide|exact .inl rfl|exact .inr rfl|(intros; rfl))) (by first|rfl|decide|exact .inl rfl|exact .inr rfl|(intros; rfl))) (@pss_cons _ _ _ _ _ (@ps_asg _ _ _ _ _ _ (@cc _ _ _ _ _ _ _ _ _ _ (by exact C_weighed) (by exact (hr.mono (by decide))) (@pa_consN _ _ _ _ _ (@pe_callTy _ _ _ _ _ _ _ _ _ call_list_of (by rfl) (by exact T.z_list) (by exact bt_list) (@pa_consN _ _ _ _ _ (pv 0) pa_nil (by first|rfl|decide|exact .inl rfl|exact .inr rfl|(intros; rfl))) (by first|rfl|decide|exact .inl rfl|exact .inr rfl|(intros; rfl)) (by first|rfl|decide|exact .inl rfl|exact .inr rfl|(intros; rfl)) (by first|rfl|decide|exact .inl rfl|exact .inr rfl|(intros; rfl)) (by first|rfl|decide|exact .inl rfl|exact .inr rfl|(intros; rfl))) pa_nil (by first|rfl|decide|exact .inl rfl|exact .inr rfl|(intros; rfl))) (by first|rfl|decide|exact .inl rfl|exact .inr rfl|(intros; rfl)) (by first|rfl|decide|exact .inl rfl|exact .inr rfl|(intros; rfl)) (by first|rfl|decide|exact .inl rfl|exact .inr rfl|(intros; rfl)) (by first|rfl|decide|exact .inl rfl|exact .inr rfl|(intros; rfl))) (@pg_tup _ _ _ _ _ _ (by rfl) (@pgs_cons _ _ _ _ _ (@pg_name _ _ (4) _ (by exact S.nd) (by rfl) (by first | exact Or.inl rfl | exact Or.inr rfl) (by first|rfl|decide|exact .inl rfl|exact .inr rfl|(intros; rfl))) (@pgs_cons _ _ _ _ _ (@pg_name _ _ (5) _ (by exact S.nd) (by rfl) (by first | exact Or.inl rfl | exact Or.inr rfl) (by first|rfl|decide|exact .inl rfl|exact .inr rfl|(intros; rfl))) pgs_nil (by first|rfl|decide|exact .inl rfl|exact .inr rfl|(intros; rfl))) (by first|rfl|decide|exact .inl rfl|exact .inr rfl|(intros; rfl))) (by first|rfl|decide|exact .inl rfl|exact .inr rfl|(intros; rfl)) (by first|rfl|decide|exact .inl rfl|exact .inr rfl|(intros; rfl))) (by first|rfl|decide|exact .inl rfl|exact .inr rfl|(intros; rfl)) (by first|rfl|decide|exact .inl rfl|exact .inr rfl|(intros; rfl)) (by first|rfl|decide|exact .inl rfl|exact .inr rfl|(intros; rfl))) (@pss_cons _ _ _ _ _ (@ps_asg _ _ _ _ _ _ (@cc _ _ _ _ _ _ _ _ _ _ (by exact C_weights_of) (by exact (hr.mono (by decide))) (@pa_consN _ _ _ _ _ (pv 1) pa_nil (by first|rfl|decide|exact .inl rfl|exact .inr rfl|(intros; rfl))) (by first|rfl|decide|exact .inl rfl|exact .inr rfl|(intros; rfl)) (by first|rfl|decide|exact .inl rfl|exact .inr rfl|(intros; rfl)) (by first|rfl|decide|exact .inl rfl|exact .inr rfl|(intros; rfl)) (by first|rfl|decide|exact .inl rfl|exact .inr rfl|(intros; rfl))) (@pg_tup _ _ _ _ _ _ (by rfl) (@pgs_cons _ _ _ _ _ (@pg_name _ _ (6) _ (by exact S.nd) (by rfl) (by first | exact Or.inl rfl | exact Or.inr rfl) (by first|rfl|decide|exact .inl rfl|exact .inr rfl|(intros; rfl))) (@pgs_cons _ _ _ _ _ (@pg_name _ _ (7) _ (by exact S.nd) (by rfl) (by first | exact Or.inl rfl | exact Or.inr rfl) (by first|rfl|decide|exact .inl rfl|exact .inr rfl|(intros; rfl))) pgs_nil (by first|rfl|decide|exact .inl rfl|exact .inr rfl|(intros; rfl))) (by first|rfl|decide|exact .inl rfl|exact .inr rfl|(intros; rfl))) (by first|rfl|decide|exact .inl rfl|exact .inr rfl|(intros; rfl)) (by first|rfl|decide|exact .inl rfl|exact .inr rfl|(intros; rfl))) (by first|rfl|decide|exact .inl rfl|exact .inr rfl|(intros; rfl)) (by first|rfl|decide|exact .inl rfl|exact .inr rfl|(intros; rfl)) (by first|rfl|decide|exact .inl rfl|exact .inr rfl|(intros; rfl))) (@pss_cons _ _ _ _ _ (@ps_for _ _ _ _ _ _ _ _ (by exact PassesOwn.never) (by rfl) (@pi_range1 _ _ _ _ _ _ (by rfl) (by exact T.z_range) (@pa_consN _ _ _ _ _ (pv 2) pa_nil (by first|rfl|decide|exact .inl rfl|exact .inr rfl|(intros; rfl))) (by first|rfl|decide|exact .inl rfl|exact .inr rfl|(intros; rfl))) (@pg_name _ _ (3) _ (by exact S.nd) (by rfl) (by first | exact Or.inl rfl | exact Or.inr rfl) (by first|rfl|decide|exact .inl rfl|exact .inr rfl|(intros; rfl))) (@pss_cons _ _ _ _ _ (@ps_set _ _ (6) _ _ _ _ (by exact S.nd) (by rfl) (by first | exact Or.inl rfl | exact Or.inr rfl) (@cc _ _ _ _ _ _ _ _ _ _ (by exact C_come) (by exact (hr.mono (by decide))) (@pa_consN _ _ _ _ _ (pv 4) (@pa_consN _ _ _ _ _ (pv 6) pa_nil (by first|rfl|decide|exact .inl rfl|exact .inr rfl|(intros; rfl))) (by first|rfl|decide|exact .inl rfl|exact .inr rfl|(intros; rfl))) (by first|rfl|decide|exact .inl rfl|exact .inr rfl|(intros; rfl)) (by first|rfl|decide|exact .inl rfl|exact .inr rfl|(intros; rfl)) (by first|rfl|decide|exact .inl rfl|exact .inr rfl|(intros; rfl)) (by first|rfl|decide|exact .inl rfl|exact .inr rfl|(intros; rfl))) (by first|rfl|decide|exact .inl rfl|exact .inr rfl|(intros; rfl)) (by first|rfl|decide|exact .inl rfl|exact .inr rfl|(intros; rfl))) (@pss_one _ _ _ (@ps_if _ _ _ _ _ _ _ _ (@pt_cmpR _ _ _ _ _ _ _ _ op_gt (@pe_callB _ _ _ _ _ _ _ _ _ call_lenT (by rfl) (by exact T.z_len) (by exact bt_len) (@pa_consN _ _ _ _ _ (pv 6) pa_nil (by first|rfl|decide|exact .inl rfl|exact .inr rfl|(intros; rfl))) (by first|rfl|decide|exact .inl rfl|exact .inr rfl|(intros; rfl)) (by first|rfl|decide|exact .inl rfl|exact .inr rfl|(intros; rfl)) (by first|rfl|decide|exact .inl rfl|exact .inr rfl|(intros; rfl)) (by first|rfl|decide|exact .inl rfl|exact .inr rfl|(intros; rfl))) (@pe_glob _ _ (.int 60) _ _ (by rfl) (by exact hml) (by exact ⟨_, rfl⟩) (by first|rfl|decide|exact .inl rfl|exact .inr rfl|(intros; rfl))) (by exact (nomark _))) (@pss_one _ _ _ ps_never) pss_nil))) (by first|rfl|decide|exact .inl rfl|exact .inr rfl|(intros; rfl))) (@pss_one _ _ _ (@ps_ret _ _ _ _ (@cc _ _ _ _ _ _ _ _ _ _ (by exact C_spread_of) (by exact (hr.mono (by decide))) (@pa_consN _ _ _ _ _ (pv 6) (@pa_consN _ _ _ _ _ (@pe_op _ _ _ _ _ _ _ _ op_cat (@pe_lst _ _ _ _ (@pa_consN _ _ _ _ _ (pv 7) pa_nil (by first|rfl|decide|exact .inl rfl|exact .inr rfl|(intros; rfl)))) (@pe_op _ _ _ _ _ _ _ _ op_rep (@pe_lst _ _ _ _ (@pa_consN _ _ _ _ _ (pv 5) pa_nil (by first|rfl|decide|exact .inl rfl|exact .inr rfl|(intros; rfl)))) (pv 2))) pa_nil (by first|rfl|decide|exact .inl rfl|exact .inr rfl|(intros; rfl))) (by first|rfl|decide|exact .inl rfl|exact .inr rfl|(intros; rfl))) (by first|rfl|decide|exact .inl rfl|exact .inr rfl|(intros; rfl)) (by first|rfl|decide|exact .inl rfl|exact .inr rfl|(intros; rfl)) (by first|rfl|decide|exact .inl rfl|exact .inr rfl|(intros; rfl)) (by first|rfl|decide|exact .inl rfl|exact .inr rfl|(intros; rfl))))))))), ?_⟩
  obtain ⟨r0, rs', ers⟩ : ∃ r0 rs', rs = r0 :: rs' := by
    cases rs with
    | nil => exact absurd rfl fit.ne
    | cons r0 rs' => exact ⟨r0, rs', rfl⟩
  have hy0 : ∃ y0, ys[0]? = some y0 := by
    have : 0 < ys.length := by rw [yl, ers]; simp
    exact ⟨_, List.getElem?_eq_getElem this⟩
  obtain ⟨y0, hy0⟩ := hy0
  obtain ⟨r, hr0, a0, b0, v0, rfl, ha0, hb0, hv0⟩ := paired_get rws hy0
  have rm : r ∈ rs := List.mem_of_getElem? hr0
  refine ⟨_, rfl, _, rfl, l, _, _, _, rfl, rfl, SqL.of hl, atI_nat hy0, a0, _, _, _, rfl, rfl, SqT.of ha0, rfl, a, b0, _, _, rfl, ha, hb0, ?_, ?_⟩
  · rw [List.length_map, xl, fit.ln r rm]
  refine ⟨_, rfl, a, _, rfl, .inr (SqT.of ha), fun l1 hl1 => ?_⟩
  have s1 := same_new hl1 (.lst xs)
  refine ⟨l1, xs, qs, rfl, upd_same, shs.same s1, fit.sq, by have := fit.q6; omega, fun t c H2 s2 ht hc => ?_⟩
  refine ⟨t, _, rfl, SqT.of ht, rfl, _, _, rfl, _, _, rfl, rfl, ?_⟩
  have s12 := s1.trans s2
  refine ⟨_, rfl, l, rs, rfl, spl.same s12, fit.nd, fit.sr, fit.few, fun t2 d H3 s3 ht2 hdn hd => ?_⟩
  refine ⟨t2, _, rfl, SqT.of ht2, rfl, _, _, rfl, _, _, rfl, rfl, ?_⟩
  have s13 := s12.trans s3
  change H3 d = some (dI (wtF (botF (rs.map (·.2))) rs)) at hd
  change H2 c = some (.lst (iv (tpF (botF qs) qs))) at hc
  have k1 := fit.k1
  refine ⟨_, rfl, (k : Int), rfl, by omega, by omega, for_range (n := (k : Int).toNat) (fun i σ H' => Same H3 H' ∧ ∃ d' o, H' d' = some (dI (itF (tpF (botF qs) qs) i (wtF (botF (rs.map (·.2))) rs))) ∧ σ = [some (.ref a), some (.ref l), some (.int (k : Int)), o, some (.ref c), some (.int (botF qs)), some (.ref d'), some (.int (botF (rs.map (·.2))))]) ?_ ?_ ?_⟩
  · exact ⟨Same.refl _, d, _, hd, rfl⟩
  · rintro i σ H4 hi ⟨s4, d', o, hd', rfl⟩
    have hi' : i < k := by omega
    have kl0 : ∀ kx ∈ keysM (wtF (botF (rs.map (·.2))) rs), kx.length = qs.length := by
      intro kx hk
      rw [wt_keys] at hk
      obtain ⟨r, hr', rfl⟩ := List.mem_map.mp hk
      exact fit.ln r hr'
    have cl : (tpF (botF qs) qs).length = qs.length := by simp [tpF]
    refine ⟨_, rfl, _, rfl, c, d', _, _, rfl, (s3.trans s4) _ _ hc, hd', by have := fit.cap i (by omega); omega, fun kx hk => by rw [it_keys kl0 i kx hk, cl], by rw [cl]; exact fit.q6, fun x hx => ?_, fit.bits i (by omega), fun e H5 s5 he hH5 => ?_⟩
    · obtain ⟨q, hq, rfl⟩ := List.mem_map.mp hx
      have b1 := (lq_all fit.sq (by have := fit.q6; omega) qs.length).2
      rw [List.take_length] at b1
      exact ((fit.sq q hq).1.mul (b1.ediv (by have := q.den_pos; omega))).mono (by decide)
    refine ⟨_, rfl, e, _, rfl, .inl hH5, _, _, rfl, rfl, _, rfl, ?_⟩
    refine ite2 (fun c => ?_) (fun _ => ⟨s4.trans s5, e, _, hH5, rfl⟩)
    exfalso
    have := fit.cap (i + 1) (by omega)
    have c' := of_decide_eq_true c
    rw [List.length_map] at c'
    have : ((comeF (tpF (botF qs) qs) (itF (tpF (botF qs) qs) i (wtF (botF (rs.map (·.2))) rs))).length : Int) ≤ 60 := by exact_mod_cast this
    omega
  · rintro σ H4 ⟨s4, d', o, hd', rfl⟩
    rw [show (k : Int).toNat = k by omega] at hd'
    refine ⟨_, rfl, _, rfl, lz 1 rfl, fun l2 hl2 => ?_⟩
    have s5 := same_new hl2 (.lst [.int (botF (rs.map (·.2)))])
    refine ⟨_, rfl, lz 1 rfl, fun l3 hl3 => ?_⟩
    have s6 := same_new hl3 (.lst [.int (botF qs)])
    refine ⟨_, rfl, l3, (k : Int), _, rfl, rfl, upd_same, by omega, by omega, ?_, fun l4 hl4 => ?_⟩
    · show 1 * (k : Int).toNat ≤ sizeLine
      rw [sizeLine_eq]; omega
    have s7 := same_new hl4 (.lst (List.replicate (k : Int).toNat [V.int (botF qs)]).flatten)
    refine ⟨l2, l4, _, _, rfl, rfl, (s6.trans s7) _ _ upd_same, upd_same, ?_, fun l5 hl5 => ?_⟩
    · rw [rep1]; simp; rw [sizeLine_eq]; omega
    have s8 := same_new hl5 (.lst ([V.int (botF (rs.map (·.2)))] ++ (List.replicate (k : Int).toNat [V.int (botF qs)]).flatten))
    have s58 := s5.trans (s6.trans (s7.trans s8))
    have hB := (lq_fold (rs.map (·.2)) 1 (by decide)).1
    have hb := (lq_fold qs 1 (by decide)).1
    refine ⟨d', l5, _, [botF (rs.map (·.2))] ++ List.replicate k (botF qs), rfl, s58 _ _ hd', ?_, it_nodup (by rw [wt_keys]; exact fit.nd) k, by have := fit.cap k (Nat.le_refl _); omega, fun b hb' => ?_, fun l' H9 s9 hn sp => ?_⟩
    · rw [upd_same, rep1, show (k : Int).toNat = k by omega]; simp [iv]
    · rcases List.mem_append.mp hb' with h | h
      · rw [List.mem_singleton.mp h]; exact ⟨hB, fit.bB⟩
      · rw [(List.mem_replicate.mp h).2]; exact ⟨hb, fit.bb⟩
    · rw [prod_rep] at sp
      have sZ := s13.trans (s4.trans s58)
      exact kk l' H9 (sZ.trans s9) (none_of sZ hn) sp
noncomputable def spPut : Sp := fun vs H Q _ => ∃ (a l : Addr) (xs : List V) (qs : List Rat) (rs : Spd), vs = [.ref a, .ref l] ∧ H a = some (.tup xs) ∧ Shs H xs qs ∧ SpAt H l rs ∧ Fit qs rs 1 ∧
  ∀ (l' : Addr) (H' : Hp), Same H H' → H l' = none → SpAt H' l' (afterF qs rs 1) → Q (.ref l') H'
theorem ok_put (C_after : Cal P w K mg base "after" ["rule", "spread", "many"] 4 spAfter) (F : FunAt K mg "put" ["rule", "spread"] s_put) : Cal P w K mg base "put" ["rule", "spread"] 5 spPut := by
  have S := sc_put
  refine F.cal sc_put (fun vs H Q E h => ?_) (fun f cdv A outer s H vs Q E hr h => ?_)
  · obtain ⟨a, l, xs, qs, rs, rfl, _⟩ := h; rfl
  obtain ⟨a, l, xs, qs, rs, rfl, ha, shs, sp, fit, k⟩ := h
  refine ⟨_, (@pss_one _ _ _ (@ps_ret _ _ _ _ (@cc _ _ _ _ _ _ _ _ _ _ (by exact C_after) (by exact (hr.mono (by decide))) (@pa_consN _ _ _ _ _ (pv 0) (@pa_consN _ _ _ _ _ (pv 1) (@pa_consN _ _ _ _ _ pe_int pa_nil (by first|rfl|decide|exact .inl rfl|exact .inr rfl|(intros; rfl))) (by first|rfl|decide|exact .inl rfl|exact .inr rfl|(intros; rfl))) (by first|rfl|decide|exact .inl rfl|exact .inr rfl|(intros; rfl))) (by first|rfl|decide|exact .inl rfl|exact .inr rfl|(intros; rfl)) (by first|rfl|decide|exact .inl rfl|exact .inr rfl|(intros; rfl)) (by first|rfl|decide|exact .inl rfl|exact .inr rfl|(intros; rfl)) (by first|rfl|decide|exact .inl rfl|exact .inr rfl|(intros; rfl))))), ?_⟩
  exact ⟨_, rfl, _, rfl, a, l, xs, qs, rs, 1, rfl, ha, shs, sp, fit, k⟩
noncomputable def spAlone : Sp := fun vs H Q _ => ∃ (b : Addr) (ns : List Int), vs = [.ref b] ∧ H b = some (.tup (iv ns)) ∧ ∀ (l : Addr) (H' : Hp), Same H H' → H l = none → SpAt H' l [(ns, 1)] → Q (.ref l) H'
theorem ok_alone (F : FunAt K mg "alone" ["load"] s_alone) : Cal P w K mg base "alone" ["load"] 1 spAlone := by
  have S := sc_alone
  refine F.cal sc_alone (fun vs H Q E h => ?_) (fun f cdv A outer s H vs Q E hr h => ?_)
  · obtain ⟨b, ns, rfl, _⟩ := h; rfl
  obtain ⟨b, ns, rfl, hb, k⟩ := h
  refine ⟨_, (@pss_one _ _ _ (@ps_ret _ _ _ _ (@pe_lst _ _ _ _ (@pa_consN _ _ _ _ _ (@pe_tup _ _ _ _ _ (@pa_consN _ _ _ _ _ (pv 0) (@pa_consN _ _ _ _ _ (@pe_tup _ _ _ _ _ (@pa_consN _ _ _ _ _ pe_int (@pa_consN _ _ _ _ _ pe_int pa_nil (by first|rfl|decide|exact .inl rfl|exact .inr rfl|(intros; rfl))) (by first|rfl|decide|exact .inl rfl|exact .inr rfl|(intros; rfl)))) pa_nil (by first|rfl|decide|exact .inl rfl|exact .inr rfl|(intros; rfl))) (by first|rfl|decide|exact .inl rfl|exact .inr rfl|(intros; rfl)))) pa_nil (by first|rfl|decide|exact .inl rfl|exact .inr rfl|(intros; rfl)))))), ?_⟩
  refine ⟨_, rfl, lz 2 rfl, fun t ht => ?_⟩
  have s1 := same_new ht (.tup [.int 1, .int 1])
  refine ⟨lz 2 rfl, fun u hu => ?_⟩
  have s2 := same_new hu (.tup [.ref b, .ref t])
  refine ⟨lz 1 rfl, fun l hl => ?_⟩
  have s3 := same_new hl (.lst [.ref u])
  have s := s1.trans (s2.trans s3)
  exact k l _ s (none_of (s1.trans s2) hl) ⟨[.ref u], upd_same, .cons ⟨u, b, .ref t, rfl, s3 _ _ upd_same, s _ _ hb, t, rfl, (s2.trans s3) _ _ upd_same⟩ .nil⟩
end
end My
set_option Elab.async false
set_option linter.all false
set_option maxRecDepth 100000
set_option maxHeartbeats 1000000
namespace My
open PySem L2 MA Srt
noncomputable def dotZ (ts ns : List Int) : Int := (List.zipWith (· * ·) ts ns).sum
noncomputable def mnF (rs : Spd) (ns : List Int) : Rat := Rat.divInt (dotZ (tpF (botF (rs.map (·.2))) (rs.map (·.2))) ns) (botF (rs.map (·.2)))
structure Mn (rs : Spd) : Prop where
  sb : ∀ r ∈ rs, SB 50 r.2
  few : rs.length ≤ 24
  bB : botF (rs.map (·.2)) < 1000000
theorem Mn.b0 (rs : Spd) : 0 < botF (rs.map (·.2)) := by unfold botF; exact (lq_fold _ 1 (by decide)).1
theorem Mn.tp {rs : Spd} (M : Mn rs) : ∀ x ∈ tpF (botF (rs.map (·.2))) (rs.map (·.2)), Bt 20000 x := by
  intro x hx
  obtain ⟨q, hq, rfl⟩ := List.mem_map.mp hx
  have sb : ∀ q ∈ rs.map (·.2), SB 50 q := fun q hq => by obtain ⟨r, hr, rfl⟩ := List.mem_map.mp hq; exact M.sb r hr
  have b1 := (lq_all sb (by have := M.few; simpa using this) (rs.map (·.2)).length).2
  rw [List.take_length] at b1
  exact ((sb q hq).1.mul (b1.ediv (by have := q.den_pos; omega))).mono (by decide)
section
variable {P : Program} {w : World} {K : PySem.W.Frag} {mg : Str → Option Value} {base : Heap}
noncomputable def spMeanOf : Sp := fun vs H Q _ => ∃ (l ln : Addr) (rs : Spd) (ns : List Int), vs = [.ref l, .ref ln] ∧ SpAt H l rs ∧ Mn rs ∧ H ln = some (.lst (iv ns)) ∧ ns.length = rs.length ∧ (∀ x ∈ ns, Bt 20000 x) ∧ ∀ v H', Same H H' → PrAt H' v (prq (mnF rs ns)) → Q v H'
theorem ok_meanof (T : Txt2 mg) (C_weighed : Cal P w K mg base "weighed" ["some"] 2 spWeighQ) (C_parted : Cal P w K mg base "parted" ["top", "bottoms"] 2 spParted) (F : FunAt K mg "mean_of" ["spread", "numbers"] s_mean_of) : Cal P w K mg base "mean_of" ["spread", "numbers"] 3 spMeanOf := by
  have S := sc_mean_of
  refine F.cal sc_mean_of (fun vs H Q E h => ?_) (fun f cdv A outer s H vs Q E hr h => ?_)
  · obtain ⟨l, ln, rs, ns, rfl, _⟩ := h; rfl
  obtain ⟨l, ln, rs, ns, rfl, ⟨xs, hl, rws⟩, M, hn, nl, nb, k⟩ := h
  have xl := Paired.length rws
  have few := M.few
  refine ⟨_, (@pss_cons _ _ _ _ _ (@ps_asg _ _ _ _ _ _ (@cc _ _ _ _ _ _ _ _ _ _ (by exact C_weighed) (by exact (hr.mono (by decide))) (@pa_consN _ _ _ _ _ (@pe_comp _ _ _ _ _ _ _ _ _ _ _ _ _ (by rfl) (by exact (fun _ _ h => h)) (by decide +kernel) (by rfl) (by decide +kernel) (by exact hfr_of rfl) (by exact Sees.frees ["load", "part"] [] fr_nil) (@pi_list _ _ _ _ (pv 0)) (fun _ _ _ _ _ => @pg_tup0 _ _ _ _ _ (2) (by rfl) (@pgs_cons _ _ _ _ _ (@pg_name _ _ (0) _ (by exact (show (["load", "part"] : List Str).Nodup by decide +kernel)) (by rfl) (by first | exact Or.inl rfl | exact Or.inr rfl) (by first|rfl|decide|exact .inl rfl|exact .inr rfl|(intros; rfl))) (@pgs_cons _ _ _ _ _ (@pg_name _ _ (1) _ (by exact (show (["load", "part"] : List Str).Nodup by decide +kernel)) (by rfl) (by first | exact Or.inl rfl | exact Or.inr rfl) (by first|rfl|decide|exact .inl rfl|exact .inr rfl|(intros; rfl))) pgs_nil (by first|rfl|decide|exact .inl rfl|exact .inr rfl|(intros; rfl))) (by first|rfl|decide|exact .inl rfl|exact .inr rfl|(intros; rfl))) (by first|rfl|decide|exact .inl rfl|exact .inr rfl|(intros; rfl)) (by first|rfl|decide|exact .inl rfl|exact .inr rfl|(intros; rfl))) (fun _ _ _ _ _ => pts_nil) (fun _ _ _ _ _ => (pv 1)) (by first|rfl|decide|exact .inl rfl|exact .inr rfl|(intros; rfl))) pa_nil (by first|rfl|decide|exact .inl rfl|exact .inr rfl|(intros; rfl))) (by first|rfl|decide|exact .inl rfl|exact .inr rfl|(intros; rfl)) (by first|rfl|decide|exact .inl rfl|exact .inr rfl|(intros; rfl)) (by first|rfl|decide|exact .inl rfl|exact .inr rfl|(intros; rfl)) (by first|rfl|decide|exact .inl rfl|exact .inr rfl|(intros; rfl))) (@pg_tup _ _ _ _ _ _ (by rfl) (@pgs_cons _ _ _ _ _ (@pg_name _ _ (2) _ (by exact S.nd) (by rfl) (by first | exact Or.inl rfl | exact Or.inr rfl) (by first|rfl|decide|exact .inl rfl|exact .inr rfl|(intros; rfl))) (@pgs_cons _ _ _ _ _ (@pg_name _ _ (3) _ (by exact S.nd) (by rfl) (by first | exact Or.inl rfl | exact Or.inr rfl) (by first|rfl|decide|exact .inl rfl|exact .inr rfl|(intros; rfl))) pgs_nil (by first|rfl|decide|exact .inl rfl|exact .inr rfl|(intros; rfl))) (by first|rfl|decide|exact .inl rfl|exact .inr rfl|(intros; rfl))) (by first|rfl|decide|exact .inl rfl|exact .inr rfl|(intros; rfl)) (by first|rfl|decide|exact .inl rfl|exact .inr rfl|(intros; rfl))) (by first|rfl|decide|exact .inl rfl|exact .inr rfl|(intros; rfl)) (by first|rfl|decide|exact .inl rfl|exact .inr rfl|(intros; rfl)) (by first|rfl|decide|exact .inl rfl|exact .inr rfl|(intros; rfl))) (@pss_one _ _ _ (@ps_ret _ _ _ _ (@cc _ _ _ _ _ _ _ _ _ _ (by exact C_parted) (by exact (hr.mono (by decide))) (@pa_consN _ _ _ _ _ (@pe_callB _ _ _ _ _ _ _ _ _ (call_sum (by rfl)) (by rfl) (by exact T.z_sum) (by exact bt_sum) (@pa_consN _ _ _ _ _ (@pe_comp _ _ _ _ _ _ _ _ _ _ _ _ _ (by rfl) (by exact (fun _ _ h => h)) (by decide +kernel) (by rfl) (by decide +kernel) (by exact hfr_of rfl) (by exact Sees.frees ["top", "number"] [] fr_nil) (@pi_zip _ _ _ _ _ _ _ _ _ (by rfl) (by exact T.z_zip) (@pa_consN _ _ _ _ _ (pv 2) (@pa_consN _ _ _ _ _ (pv 1) pa_nil (by first|rfl|decide|exact .inl rfl|exact .inr rfl|(intros; rfl))) (by first|rfl|decide|exact .inl rfl|exact .inr rfl|(intros; rfl))) (by first|rfl|decide|exact .inl rfl|exact .inr rfl|(intros; rfl)) (by first|rfl|decide|exact .inl rfl|exact .inr rfl|(intros; rfl))) (fun _ _ _ _ _ => @pg_tup0 _ _ _ _ _ (2) (by rfl) (@pgs_cons _ _ _ _ _ (@pg_name _ _ (0) _ (by exact (show (["top", "number"] : List Str).Nodup by decide +kernel)) (by rfl) (by first | exact Or.inl rfl | exact Or.inr rfl) (by first|rfl|decide|exact .inl rfl|exact .inr rfl|(intros; rfl))) (@pgs_cons _ _ _ _ _ (@pg_name _ _ (1) _ (by exact (show (["top", "number"] : List Str).Nodup by decide +kernel)) (by rfl) (by first | exact Or.inl rfl | exact Or.inr rfl) (by first|rfl|decide|exact .inl rfl|exact .inr rfl|(intros; rfl))) pgs_nil (by first|rfl|decide|exact .inl rfl|exact .inr rfl|(intros; rfl))) (by first|rfl|decide|exact .inl rfl|exact .inr rfl|(intros; rfl))) (by first|rfl|decide|exact .inl rfl|exact .inr rfl|(intros; rfl)) (by first|rfl|decide|exact .inl rfl|exact .inr rfl|(intros; rfl))) (fun _ _ _ _ _ => pts_nil) (fun _ _ _ _ _ => (@pe_op _ _ _ _ _ _ _ _ op_mulB (pv 0) (pv 1))) (by first|rfl|decide|exact .inl rfl|exact .inr rfl|(intros; rfl))) pa_nil (by first|rfl|decide|exact .inl rfl|exact .inr rfl|(intros; rfl))) (by first|rfl|decide|exact .inl rfl|exact .inr rfl|(intros; rfl)) (by first|rfl|decide|exact .inl rfl|exact .inr rfl|(intros; rfl)) (by first|rfl|decide|exact .inl rfl|exact .inr rfl|(intros; rfl)) (by first|rfl|decide|exact .inl rfl|exact .inr rfl|(intros; rfl))) (@pa_consN _ _ _ _ _ (@pe_lst _ _ _ _ (@pa_consN _ _ _ _ _ (pv 3) pa_nil (by first|rfl|decide|exact .inl rfl|exact .inr rfl|(intros; rfl)))) pa_nil (by first|rfl|decide|exact .inl rfl|exact .inr rfl|(intros; rfl))) (by first|rfl|decide|exact .inl rfl|exact .inr rfl|(intros; rfl))) (by first|rfl|decide|exact .inl rfl|exact .inr rfl|(intros; rfl)) (by first|rfl|decide|exact .inl rfl|exact .inr rfl|(intros; rfl)) (by first|rfl|decide|exact .inl rfl|exact .inr rfl|(intros; rfl)) (by first|rfl|decide|exact .inl rfl|exact .inr rfl|(intros; rfl)))))), ?_⟩
  refine ⟨_, rfl, l, rfl, ⟨_, SqL.of hl⟩, comp_Y (yields_lst (xs := xs)) (fun p i ys σ' H' => Same H H' ∧ (∃ o1 o2, σ' = [o1, o2]) ∧ ys.length = i ∧ Shs H' ys ((rs.take i).map (·.2))) (by omega) ?_ ?_ ?_ ?_⟩
  · intro p hp
    exact ⟨same_new hp _, ⟨_, _, rfl⟩, rfl, .nil⟩
  · rintro p i ys σ' H' hp ⟨s', _⟩
    exact s' _ _ hl
  · rintro p i ys σ' H' x H'' hp hi hl' ⟨s', ⟨o1, o2, rfl⟩, yl, sh⟩ hp' ⟨rfl, hx⟩ Q1 Q2 h1 h2
    obtain ⟨r, hri, a, b, v2, rfl, ha, hb, hv⟩ := paired_get rws hx
    refine ⟨a, _, rfl, s' _ _ ha, rfl, _, _, rfl, _, _, rfl, rfl, ?_⟩
    refine tT_ (iteT ⟨_, rfl, h1 _ _ _ hp' ⟨same_updN hp s' _, ⟨_, _, rfl⟩, by simp [yl], ?_⟩⟩)
    rw [take_snoc hri, List.map_append]
    exact Shs.snoc (shUpdL hp' (hv.same s')) (Shs.updL hp' sh)
  · rintro p ys σ' H' hp ⟨s', _, yl, sh⟩ hp' hl'
    rw [xl, List.take_length] at sh
    refine ⟨p, ys, rs.map (·.2), rfl, hp', sh, fun q hq => ?_, by simpa using few, fun t c H2 s2 ht hc => ?_⟩
    · obtain ⟨r, hr', rfl⟩ := List.mem_map.mp hq
      exact M.sb r hr'
    refine ⟨t, _, rfl, SqT.of ht, rfl, _, _, rfl, _, _, rfl, rfl, ?_⟩
    have sA := s'.trans s2
    change H2 c = some (.lst (iv (tpF (botF (rs.map (·.2))) (rs.map (·.2))))) at hc
    have hT := M.tp
    have b0 := Mn.b0 rs
    have b1 := M.bB
    have tl : (tpF (botF (rs.map (·.2))) (rs.map (·.2))).length = rs.length := by simp [tpF]
    show _
    unfold mnF at k
    change ∀ v H', _ at k
    have hn2 := sA _ _ hn
    refine ⟨_, rfl, _, rfl, c, ln, rfl, ⟨_, SqL.of hc⟩, ⟨_, SqL.of hn2⟩, comp_Y (yields_zip (xs := iv (tpF (botF (rs.map (·.2))) (rs.map (·.2)))) (ys := iv ns) (by simp [tl, nl])) (fun p i ys σ' H' => Same H2 H' ∧ (∃ o1 o2, σ' = [o1, o2]) ∧ ys = iv ((List.zipWith (· * ·) (tpF (botF (rs.map (·.2))) (rs.map (·.2))) ns).take i)) (by simp [tl]; omega) ?_ ?_ ?_ ?_⟩
    · exact fun p hp => ⟨same_new hp _, ⟨_, _, rfl⟩, rfl⟩
    · rintro p i ys σ' H' hp ⟨s3, _⟩
      exact ⟨s3 _ _ hc, s3 _ _ hn2⟩
    · rintro p i ys σ' H3 x H4 hp hi hl' ⟨s3, ⟨o1, o2, rfl⟩, rfl⟩ hp' ⟨q, y, z, rfl, hq, rfl, hy, hz⟩ Q1 Q2 h1 h2
      rw [List.getElem?_map, Option.map_eq_some_iff] at hy hz
      obtain ⟨ti, hti, rfl⟩ := hy
      obtain ⟨ni, hni, rfl⟩ := hz
      have s4 := same_new hq (.tup [.int ti, .int ni])
      refine ⟨q, _, rfl, upd_same, rfl, _, _, rfl, _, _, rfl, rfl, ?_⟩
      refine tT_ (iteT ⟨_, rfl, _, rfl, _, _, rfl, rfl, ⟨hT _ (List.mem_of_getElem? hti), nb _ (List.mem_of_getElem? hni)⟩, h1 _ _ _ (s4 _ _ hp') ⟨same_updN hp (s3.trans s4) _, ⟨_, _, rfl⟩, ?_⟩⟩)
      rw [take_snoc (x := ti * ni) (by rw [List.getElem?_zipWith, hti, hni])]
      show _ = List.map V.int _
      rw [List.map_append]
      first | done | rfl
    · rintro p2 ys2 σ2 H3 hp2 ⟨s3, _, rfl⟩ hp2' hl2
      rw [List.take_of_length_le (by simp [tl, nl])] at hp2'
      refine ⟨p2, _, rfl, SqL.of hp2', ?_⟩
      refine ⟨_, rfl, lz 1 rfl, fun l4 hl4 => ?_⟩
      have s4 := same_new hl4 (.lst [.int (botF (rs.map (·.2)))])
      refine ⟨_, l4, [botF (rs.map (·.2))], rfl, upd_same, fun b hb => by simp at hb; subst hb; exact ⟨b0, b1⟩, fun v H5 s5 pv => ?_⟩
      rw [parted_q 1 _ rfl (fun b hb => by simp at hb; subst hb; exact b0), List.prod_cons, List.prod_nil, Int.mul_one] at pv
      exact k v H5 (sA.trans (s3.trans (s4.trans s5))) pv
end
end My
set_option Elab.async false
set_option linter.all false
set_option maxRecDepth 100000
set_option maxHeartbeats 1000000
namespace My
open PySem L2 MA Srt
noncomputable def LdR (rs : Spd) : Prop := ∀ r ∈ rs, r.1 ≠ [] ∧ r.1.length ≤ 6 ∧ ∀ x ∈ r.1, 0 ≤ x ∧ x ≤ 40
noncomputable def gSum (k : Nat) (l : List Int) : Int := (l.take k).sum
noncomputable def nmF (g : List Int → Int) (rs : Spd) : List Int := rs.map fun r => g r.1
theorem nm_len (g : List Int → Int) (rs : Spd) : (nmF g rs).length = rs.length := by simp [nmF]
theorem nm_take {g : List Int → Int} {rs : Spd} {i : Nat} {r : List Int × Rat} (h : rs[i]? = some r) : iv ((nmF g rs).take (i + 1)) = iv ((nmF g rs).take i) ++ [.int (g r.1)] := by
  rw [take_snoc (x := g r.1) (by unfold nmF; rw [List.getElem?_map, h]; rfl)]
  show List.map V.int _ = _
  rw [List.map_append]; rfl
theorem cut_to (l : List Int) (k : Nat) : cutV (iv l) none (some (k : Int)) = iv (l.take k) := by
  unfold cutV
  rw [HT.sIx_none, HT.sIx_nat, List.drop_zero, Nat.sub_zero]
  show List.take _ (List.map V.int l) = List.map V.int _
  rw [List.map_take, List.length_map]
  rcases Nat.le_total k l.length with h | h
  · rw [Nat.min_eq_left h]
  · rw [Nat.min_eq_right h, List.take_of_length_le (by simp), List.take_of_length_le (by simpa using h)]
theorem bt_small {x : Int} (h : -100000 ≤ x ∧ x ≤ 100000) : Bt 20000 x := (Bt.of_lt (n := 20) (Nat.lt_of_le_of_lt (show x.natAbs ≤ 100000 by omega) (by decide))).mono (by decide)
theorem sum_in {l : List Int} {c : Int} (h : ∀ x ∈ l, 0 ≤ x ∧ x ≤ c) : 0 ≤ l.sum ∧ l.sum ≤ c * l.length := by
  induction l with
  | nil => simp
  | cons a l ih =>
    have := ih fun x hx => h x (by simp [hx])
    have := h a (by simp)
    rw [List.sum_cons, List.length_cons, show ((l.length + 1 : Nat) : Int) = (l.length : Int) + 1 by omega, Int.mul_add, Int.mul_one]
    omega
theorem gSum_small {k : Nat} {l : List Int} (h6 : l.length ≤ 6) (h : ∀ x ∈ l, 0 ≤ x ∧ x ≤ 40) : -100000 ≤ gSum k l ∧ gSum k l ≤ 100000 := by
  have h2 := sum_in (l := l.take k) (c := 40) fun y hy => h y (List.mem_of_mem_take hy)
  have : (l.take k).length ≤ 6 := by rw [List.length_take]; omega
  unfold gSum
  omega
section
variable {P : Program} {w : World} {K : PySem.W.Frag} {mg : Str → Option Value} {base : Heap}
noncomputable def spMn (g : List Int → Int) (rest : List V) : Sp := fun vs H Q _ => ∃ (l : Addr) (rs : Spd), vs = .ref l :: rest ∧ SpAt H l rs ∧ Mn rs ∧ LdR rs ∧ ∀ v H', Same H H' → PrAt H' v (prq (mnF rs (nmF g rs))) → Q v H'
noncomputable def spFirst : Sp := fun vs H Q E => ∃ k : Nat, spMn (gSum k) [.int (k : Int)] vs H Q E
theorem ok_first (T : Txt2 mg) (C_mean_of : Cal P w K mg base "mean_of" ["spread", "numbers"] 3 spMeanOf) (F : FunAt K mg "first_mean" ["spread", "k"] s_first_mean) : Cal P w K mg base "first_mean" ["spread", "k"] 4 spFirst := by
  have S := sc_first_mean
  refine F.cal sc_first_mean (fun vs H Q E h => ?_) (fun f cdv A outer s H vs Q E hr h => ?_)
  · obtain ⟨x, l, rs, rfl, _⟩ := h; rfl
  obtain ⟨kk, l, rs, rfl, spl, M, LR, k⟩ := h
  obtain ⟨xs, hl, rws⟩ := id spl
  have xl := Paired.length rws
  have few := M.few
  refine ⟨_, (@pss_one _ _ _ (@ps_ret _ _ _ _ (@cc _ _ _ _ _ _ _ _ _ _ (by exact C_mean_of) (by exact (hr.mono (by decide))) (@pa_consN _ _ _ _ _ (pv 0) (@pa_consN _ _ _ _ _ (@pe_comp _ _ _ _ _ _ _ _ _ _ _ _ _ (by rfl) (by exact (fun _ _ h => h)) (by decide +kernel) (by rfl) (by decide +kernel) (by exact hfr_of rfl) (by exact Sees.frees ["load", "part"] [("k", 1)] (fr_cons ⟨rfl, rfl⟩ fr_nil)) (@pi_list _ _ _ _ (pv 0)) (fun _ _ _ _ _ => @pg_tup0 _ _ _ _ _ (2) (by rfl) (@pgs_cons _ _ _ _ _ (@pg_name _ _ (0) _ (by exact (show (["load", "part", "k"] : List Str).Nodup by decide +kernel)) (by rfl) (by first | exact Or.inl rfl | exact Or.inr rfl) (by first|rfl|decide|exact .inl rfl|exact .inr rfl|(intros; rfl))) (@pgs_cons _ _ _ _ _ (@pg_name _ _ (1) _ (by exact (show (["load", "part", "k"] : List Str).Nodup by decide +kernel)) (by rfl) (by first | exact Or.inl rfl | exact Or.inr rfl) (by first|rfl|decide|exact .inl rfl|exact .inr rfl|(intros; rfl))) pgs_nil (by first|rfl|decide|exact .inl rfl|exact .inr rfl|(intros; rfl))) (by first|rfl|decide|exact .inl rfl|exact .inr rfl|(intros; rfl))) (by first|rfl|decide|exact .inl rfl|exact .inr rfl|(intros; rfl)) (by first|rfl|decide|exact .inl rfl|exact .inr rfl|(intros; rfl))) (fun _ _ _ _ _ => pts_nil) (fun _ _ _ _ _ => (@pe_callB _ _ _ _ _ _ _ _ _ (call_sumT (by rfl)) (by rfl) (by exact T.z_sum) (by exact bt_sum) (@pa_consN _ _ _ _ _ (@pe_slice _ _ _ _ _ _ _ _ _ _ sl_tupS (pv 0) po_none (@po_some _ _ _ (pv 2))) pa_nil (by first|rfl|decide|exact .inl rfl|exact .inr rfl|(intros; rfl))) (by first|rfl|decide|exact .inl rfl|exact .inr rfl|(intros; rfl)) (by first|rfl|decide|exact .inl rfl|exact .inr rfl|(intros; rfl)) (by first|rfl|decide|exact .inl rfl|exact .inr rfl|(intros; rfl)) (by first|rfl|decide|exact .inl rfl|exact .inr rfl|(intros; rfl)))) (by first|rfl|decide|exact .inl rfl|exact .inr rfl|(intros; rfl))) pa_nil (by first|rfl|decide|exact .inl rfl|exact .inr rfl|(intros; rfl))) (by first|rfl|decide|exact .inl rfl|exact .inr rfl|(intros; rfl))) (by first|rfl|decide|exact .inl rfl|exact .inr rfl|(intros; rfl)) (by first|rfl|decide|exact .inl rfl|exact .inr rfl|(intros; rfl)) (by first|rfl|decide|exact .inl rfl|exact .inr rfl|(intros; rfl)) (by first|rfl|decide|exact .inl rfl|exact .inr rfl|(intros; rfl))))), ?_⟩
  refine ⟨_, rfl, _, rfl, l, rfl, ⟨_, SqL.of hl⟩, comp_Y (yields_lst (xs := xs)) (fun p i ys σ' H' => Same H H' ∧ (∃ o1 o2, σ' = [o1, o2, some (.int (kk : Int))]) ∧ ys = iv ((nmF (gSum kk) rs).take i)) (by omega) ?_ ?_ ?_ ?_⟩
  · exact fun p hp => ⟨same_new hp _, ⟨_, _, rfl⟩, rfl⟩
  · rintro p i ys σ' H' hp ⟨s', _⟩
    exact s' _ _ hl
  · rintro p i ys σ' H' x' H'' hp hi hl' ⟨s', ⟨o1, o2, rfl⟩, rfl⟩ hp' ⟨rfl, hx'⟩ Q1 Q2 h1 h2
    obtain ⟨r, hri, a, b, v2, rfl, ha, hb, hv⟩ := paired_get rws hx'
    obtain ⟨r1, r2, r3⟩ := LR r (List.mem_of_getElem? hri)
    refine ⟨a, _, rfl, s' _ _ ha, rfl, _, _, rfl, _, _, rfl, rfl, ?_⟩
    refine tT_ (iteT ⟨_, rfl, _, rfl, _, rfl, b, _, rfl, s' _ _ hb, fun c H5 s5 hc => ?_⟩)
    rw [cut_to] at hc
    exact ⟨c, _, rfl, hc, h1 _ _ _ (s5 _ _ hp') ⟨same_updN hp (s'.trans s5) _, ⟨_, _, rfl⟩, (nm_take hri).symm⟩⟩
  · rintro p ys σ' H' hp ⟨s', _, rfl⟩ hp' hl'
    rw [List.take_of_length_le (by rw [nm_len]; omega)] at hp'
    exact ⟨l, p, rs, nmF (gSum kk) rs, rfl, spl.same s', M, hp', nm_len _ _, fun y hy => by obtain ⟨r, hr', rfl⟩ := List.mem_map.mp hy; exact bt_small (gSum_small (LR r hr').2.1 (LR r hr').2.2), fun v H5 s5 pv => k v H5 (s'.trans s5) pv⟩
end
end My
set_option Elab.async false
set_option linter.all false
set_option maxRecDepth 100000
set_option maxHeartbeats 4000000
namespace My
open PySem L2 MA Srt
theorem gain_mem {c : List Int} {n : Nat} {l : List Int} {q : List Int × Int} (h : q ∈ gainF c n l) : ∃ r, r < n ∧ q = (putL l r, c.getD r 0) ∧ 0 < c.getD r 0 := by
  unfold gainF at h
  obtain ⟨r, hr, hq⟩ := List.mem_flatMap.mp h
  split at hq
  · rename_i z
    exact ⟨r, List.mem_range.mp hr, List.mem_singleton.mp hq, z⟩
  · simp at hq
noncomputable def ruleQ (w : List Int) : List Rat := w.map fun x => Rat.divInt x w.sum
theorem bot_dvd {qs : List Rat} {S : Int} (hS : 0 < S) (h : ∀ q ∈ qs, ∃ t, q = Rat.divInt t S) : botF qs ∣ S ∧ 0 < botF qs ∧ (∀ q ∈ qs, (q.den : Int) ∣ botF qs) := by
  obtain ⟨h1, _, h3⟩ := lq_fold qs 1 (by decide)
  refine ⟨lq_dvd qs 1 S (by decide) hS (Int.one_dvd _) fun q hq => ?_, h1, h3⟩
  obtain ⟨t, rfl⟩ := h q hq
  have := share_pos (t := t) hS
  rw [← this.2]
  exact Int.ediv_dvd_of_dvd (gI_dvd_right t S)
theorem tp_getD (L : Int) (qs : List Rat) (r : Nat) : (tpF L qs).getD r 0 = match qs[r]? with | some q => q.num * (L / (q.den : Int)) | none => 0 := by
  unfold tpF
  rw [List.getD_eq_getElem?_getD, List.getElem?_map]
  cases qs[r]? <;> rfl
theorem rule_tp {w : List Int} (hS : 0 < w.sum) (r : Nat) : (tpF (botF (ruleQ w)) (ruleQ w)).getD r 0 * w.sum = w.getD r 0 * botF (ruleQ w) := by
  obtain ⟨_, _, hd⟩ := bot_dvd hS (qs := ruleQ w) fun q hq => by obtain ⟨x, _, rfl⟩ := List.mem_map.mp hq; exact ⟨x, rfl⟩
  rw [tp_getD]
  have e : (ruleQ w)[r]? = (w[r]?).map fun x => Rat.divInt x w.sum := by unfold ruleQ; rw [List.getElem?_map]
  rw [e, List.getD_eq_getElem?_getD]
  cases hx : w[r]? with
  | none => simp
  | some x =>
    show (Rat.divInt x w.sum).num * _ * w.sum = x * _
    refine tp_at (hd _ ?_) hS rfl
    unfold ruleQ
    exact List.mem_map.mpr ⟨x, List.mem_of_getElem? hx, rfl⟩
theorem wt_get {B : Int} {rs : Spd} (nd : (rs.map (·.1)).Nodup) {r : List Int × Rat} (h : r ∈ rs) : getM (wtF B rs) r.1 = r.2.num * (B / (r.2.den : Int)) := by
  have : (r.1, r.2.num * (B / (r.2.den : Int))) ∈ wtF B rs := List.mem_map.mpr ⟨r, h, rfl⟩
  exact getM_mem (p := (r.1, r.2.num * (B / (r.2.den : Int)))) (by rw [wt_keys]; exact nd) this
theorem spr_keys (m : Mp) (W : Int) : (sprF m W).map (·.1) = rise (keysM m) := by unfold sprF; rw [List.map_map]; exact List.map_id _
theorem like0 {F : Mp} (nd : (keysM F).Nodup) {W : Int} (hW : 0 < W) : Like (wtF (botF ((sprF F W).map (·.2))) (sprF F W)) F W (botF ((sprF F W).map (·.2))) := by
  have nk : ((sprF F W).map (·.1)).Nodup := by rw [spr_keys]; exact (rise_perm _).nodup_iff.mpr nd
  obtain ⟨_, _, hd⟩ := bot_dvd hW (qs := (sprF F W).map (·.2)) fun q hq => by
    obtain ⟨r, hr, rfl⟩ := List.mem_map.mp hq
    obtain ⟨k, _, rfl⟩ := List.mem_map.mp hr
    exact ⟨_, rfl⟩
  refine ⟨by rw [wt_keys]; exact nk, nd, fun k => by rw [wt_keys, spr_keys]; exact (rise_perm _).mem_iff, fun k => ?_⟩
  by_cases hk : k ∈ keysM F
  · have hr : (k, Rat.divInt (getM F k) W) ∈ sprF F W := List.mem_map.mpr ⟨k, (rise_perm _).mem_iff.mpr hk, rfl⟩
    have e := wt_get (B := botF ((sprF F W).map (·.2))) nk hr
    rw [e]
    exact tp_at (hd _ (List.mem_map_of_mem hr)) hW rfl
  · rw [getM_absent hk, getM_absent (by rw [wt_keys, spr_keys]; exact fun z => hk ((rise_perm _).mem_iff.mp z))]
    omega
theorem like_it {w : List Int} {F : Mp} (nd : (keysM F).Nodup) (hS : 0 < w.sum) {W : Int} (hW : 0 < W) : ∀ k : Nat, Like (itF (tpF (botF (ruleQ w)) (ruleQ w)) k (wtF (botF ((sprF F W).map (·.2))) (sprF F W))) (itF w k F) (W * w.sum ^ k) (botF ((sprF F W).map (·.2)) * botF (ruleQ w) ^ k)
  | 0 => by simpa [itF] using like0 nd hW
  | k + 1 => by
    have L := like_it nd hS hW k
    have hb := (bot_dvd hS (qs := ruleQ w) fun q hq => by obtain ⟨x, _, rfl⟩ := List.mem_map.mp hq; exact ⟨x, rfl⟩).2.1
    have cl : (tpF (botF (ruleQ w)) (ruleQ w)).length = w.length := by simp [tpF, ruleQ]
    have g := fun l => gain_like hS hb (rule_tp hS) w.length l
    have := L.step (u := w.sum) (v := botF (ruleQ w)) (g := gainF (tpF (botF (ruleQ w)) (ruleQ w)) w.length) (h := gainF w w.length) (fun l _ => (g l).1) (fun l _ => (g l).2)
    rw [Int.pow_succ, Int.pow_succ, ← Int.mul_assoc, ← Int.mul_assoc]
    unfold itF comeF
    rw [cl]
    exact this
theorem pow_pos' {a : Int} (h : 0 < a) (k : Nat) : 0 < a ^ k := Int.pow_pos h
theorem after_eq {w : List Int} {F : Mp} (nd : (keysM F).Nodup) (hS : 0 < w.sum) {W : Int} (hW : 0 < W) (k : Nat) : afterF (ruleQ w) (sprF F W) k = sprF (itF w k F) (W * w.sum ^ k) := by
  have hb := (bot_dvd hS (qs := ruleQ w) fun q hq => by obtain ⟨x, _, rfl⟩ := List.mem_map.mp hq; exact ⟨x, rfl⟩).2.1
  have hB := (lq_fold ((sprF F W).map (·.2)) 1 (by decide)).1
  unfold afterF
  exact spr_like (like_it nd hS hW k) (Int.mul_pos hW (pow_pos' hS k)) (Int.mul_pos hB (pow_pos' hb k)) (Int.mul_pos hW (pow_pos' hS k)) rfl
theorem zip_maps {α : Type} (f h : α → Int) : ∀ l : List α, List.zipWith (· * ·) (l.map f) (l.map h) = l.map fun a => f a * h a
  | [] => rfl
  | a :: l => by simp only [List.map_cons, List.zipWith_cons_cons, zip_maps f h l]
theorem den_dvd {qs : List Rat} : ∀ q ∈ qs, (q.den : Int) ∣ botF qs := by
  unfold botF
  exact (lq_fold qs 1 (by decide)).2.2
theorem mean_eq {g : List Int → Int} {F : Mp} (nd : (keysM F).Nodup) {W : Int} (hW : 0 < W) : mnF (sprF F W) (nmF g (sprF F W)) = Rat.divInt (tot F g) W := by
  have b0 := Mn.b0 (sprF F W)
  unfold mnF
  rw [Rat.divInt_eq_divInt_iff (by omega) (by omega), tot_keys nd]
  unfold dotZ tpF nmF
  rw [List.map_map, zip_maps]
  have hd := den_dvd (qs := (sprF F W).map (·.2))
  generalize botF ((sprF F W).map (·.2)) = B at hd b0
  have e1 : ((sprF F W).map fun a => ((fun q : Rat => q.num * (B / (q.den : Int))) ∘ fun x => x.2) a * g a.1) = (rise (keysM F)).map fun k => (Rat.divInt (getM F k) W).num * (B / ((Rat.divInt (getM F k) W).den : Int)) * g k := by
    unfold sprF; rw [List.map_map]; rfl
  rw [e1, ← sum_mul, ← sum_mul, List.map_map, List.map_map]
  have e2 : (rise (keysM F)).map ((fun a => a * W) ∘ fun k => (Rat.divInt (getM F k) W).num * (B / ((Rat.divInt (getM F k) W).den : Int)) * g k) = (rise (keysM F)).map ((fun a => a * B) ∘ fun k => getM F k * g k) := by
    refine List.map_congr_left fun k hk => ?_
    show (Rat.divInt (getM F k) W).num * (B / ((Rat.divInt (getM F k) W).den : Int)) * g k * W = getM F k * g k * B
    have := tp_at (L := B) (q := Rat.divInt (getM F k) W) (hd _ (List.mem_map.mpr ⟨(k, Rat.divInt (getM F k) W), List.mem_map.mpr ⟨k, hk, rfl⟩, rfl⟩)) hW rfl
    rw [Int.mul_right_comm, this, Int.mul_right_comm]
  rw [e2]
  exact sum_perm ((rise_perm _).map _)
end My
set_option Elab.async false
set_option linter.all false
set_option maxRecDepth 100000
set_option maxHeartbeats 1000000
namespace My
open PySem L2 MA Srt
noncomputable def mulM (f : List Int → Int) (m : Mp) : Mp := m.map fun p => (p.1, p.2 * f p.1)
theorem mul_has (f : List Int → Int) (m : Mp) (k : List Int) : hasM (mulM f m) k = hasM m k := by unfold hasM mulM; rw [List.any_map]; rfl
theorem mul_get (f : List Int → Int) : ∀ (m : Mp) (k : List Int), getM (mulM f m) k = getM m k * f k
  | [], k => by show (0 : Int) = 0 * f k; omega
  | p :: m, k => by
    show getM ((p.1, p.2 * f p.1) :: mulM f m) k = _
    rw [getM_cons, getM_cons, mul_get f m k]
    by_cases e : p.1 = k
    · rw [if_pos e, if_pos e, e]
    · rw [if_neg e, if_neg e]
theorem mul_add (f : List Int → Int) (m : Mp) (r : List Int × Int) : addM (mulM f m) (r.1, r.2 * f r.1) = mulM f (addM m r) := by
  unfold addM putM
  dsimp only
  rw [mul_has, mul_get]
  by_cases h : hasM m r.1 = true
  · rw [if_pos h, if_pos h]; unfold mulM; rw [List.map_map, List.map_map]
    refine List.map_congr_left fun p _ => ?_
    show (if p.1 = r.1 then _ else _) = ((if p.1 = r.1 then (p.1, getM m r.1 + r.2) else p).1, (if p.1 = r.1 then (p.1, getM m r.1 + r.2) else p).2 * f (if p.1 = r.1 then (p.1, getM m r.1 + r.2) else p).1)
    by_cases e : p.1 = r.1
    · simp [e, Int.add_mul]
    · simp only [if_neg e]
  · rw [if_neg h, if_neg h]; unfold mulM; rw [List.map_append, ← Int.add_mul]; rfl
theorem mul_gath (f : List Int → Int) (rows : Mp) : gath (mulM f rows) = mulM f (gath rows) := by
  have : ∀ (rows : Mp) (m : Mp), (mulM f rows).foldl addM (mulM f m) = mulM f (rows.foldl addM m) := by
    intro rows
    induction rows with
    | nil => intro m; rfl
    | cons r rows ih => intro m; show (mulM f rows).foldl addM (addM (mulM f m) (r.1, r.2 * f r.1)) = _; rw [mul_add, ih]; rfl
  exact this rows []
theorem tot_gath (f : List Int → Int) (rows : Mp) : tot (gath rows) f = tot rows f := by
  have e : ∀ m : Mp, tot m f = (valsM (mulM f m)).sum := fun m => by unfold tot valsM mulM; rw [List.map_map]; rfl
  rw [e, e, ← mul_gath, gath_sum]
theorem tot_gain {w : List Int} (w0 : ∀ r, 0 ≤ w.getD r 0) (l : List Int) (f : List Int → Int) : ∀ n, tot (gainF w n l) f = ((List.range n).map fun r => w.getD r 0 * f (putL l r)).sum
  | 0 => rfl
  | n + 1 => by
    have ih := tot_gain w0 l f n
    rw [gain_succ, map_range_succ]
    unfold tot at ih ⊢
    rw [List.map_append, List.sum_append, List.sum_append, ih]
    congr 1
    by_cases z : 0 < w.getD n 0
    · rw [if_pos z]; rfl
    · rw [if_neg z]
      have e : w.getD n 0 = 0 := by have := w0 n; omega
      rw [e]; simp
theorem rows_one (l : List Int) (v : Int) (g : List Int → Mp) : rowsM [(l, v)] g = (g l).map fun q => (q.1, v * q.2) := by unfold rowsM; simp
theorem tot_come {w : List Int} (w0 : ∀ r, 0 ≤ w.getD r 0) (l : List Int) (f : List Int → Int) : tot (itF w 1 [(l, 1)]) f = ((List.range w.length).map fun r => w.getD r 0 * f (putL l r)).sum := by
  show tot (gath (rowsM [(l, 1)] (gainF w w.length))) f = _
  rw [tot_gath, ← tot_gain w0 l f w.length, rows_one]
  unfold tot
  rw [List.map_map]
  congr 1
  refine List.map_congr_left fun q _ => ?_
  show 1 * q.2 * f q.1 = q.2 * f q.1
  rw [Int.one_mul]
theorem nn_getD {w : List Int} (h : ∀ x ∈ w, 0 ≤ x) (r : Nat) : 0 ≤ w.getD r 0 := by
  rw [List.getD_eq_getElem?_getD]
  cases e : w[r]? with
  | none => exact Int.le_refl _
  | some x => exact h x (List.mem_of_getElem? e)
noncomputable def PreAt (l : List Int) (k j : Nat) : Prop := ∀ r, r < l.length → gSum k (putL l r) = gSum k l + if r < j then 1 else 0
theorem tot_pre {w l : List Int} {k j : Nat} (w0 : ∀ x ∈ w, 0 ≤ x) (hl : l.length = w.length) (h : PreAt l k j) : tot (itF w 1 [(l, 1)]) (gSum k) = w.sum * gSum k l + (w.take j).sum := by
  rw [tot_come (nn_getD w0)]
  have key : ∀ n, n ≤ w.length → ((List.range n).map fun r => w.getD r 0 * gSum k (putL l r)).sum = (w.take n).sum * gSum k l + (w.take (min n j)).sum := by
    intro n
    induction n with
    | zero => intro _; simp
    | succ n ih =>
      intro hn
      have hw : n < w.length := by omega
      rw [map_range_succ, List.sum_append, ih (by omega), h n (by omega), List.take_succ_eq_append_getElem hw, List.sum_append]
      have e : w.getD n 0 = w[n] := getD_of hw
      rw [e]
      by_cases c : n < j
      · rw [if_pos c, Nat.min_eq_left (by omega), Nat.min_eq_left (by omega), List.take_succ_eq_append_getElem hw, List.sum_append]
        simp [Int.mul_add, Int.add_mul]; omega
      · rw [if_neg c, Nat.min_eq_right (by omega), Nat.min_eq_right (by omega)]
        simp [Int.mul_add, Int.add_mul]; omega
  have := key w.length (Nat.le_refl _)
  rw [this, List.take_length]
  congr 1
  by_cases c : w.length ≤ j
  · rw [Nat.min_eq_left c, List.take_length, List.take_of_length_le c]
  · rw [Nat.min_eq_right (by omega)]
noncomputable def rowsL : Nat → List (List Int)
  | 0 => [[]]
  | n + 1 => (rowsL n).flatMap fun l => [0 :: l, 1 :: l, 2 :: l]
theorem mem_rows : ∀ (l : List Int), (∀ x ∈ l, 0 ≤ x ∧ x ≤ 2) → l ∈ rowsL l.length
  | [], _ => by simp [rowsL]
  | a :: l, h => by
    have ih := mem_rows l fun x hx => h x (by simp [hx])
    show a :: l ∈ (rowsL l.length).flatMap fun l => [0 :: l, 1 :: l, 2 :: l]
    refine List.mem_flatMap.mpr ⟨l, ih, ?_⟩
    have ha := h a (by simp)
    have : a = 0 ∨ a = 1 ∨ a = 2 := by omega
    rcases this with rfl | rfl | rfl <;> simp
noncomputable def mvL (l : List Int) (r : Nat) : List Int := l.set (l.idxOf (l.getD r 0)) (l.getD r 0 + 1)
noncomputable def okL (l : List Int) : Bool := (List.range l.length).all fun r => (mvL l r).isPerm (l.set r (l.getD r 0 + 1)) && decide ((mvL l r).Pairwise (· ≥ ·))
noncomputable def endL (l : List Int) (k : Nat) : Nat := ((List.range l.length).filter fun r => decide (gSum k (mvL l r) = gSum k l + 1)).length
noncomputable def okP (l : List Int) : Bool := (List.range (l.length + 1)).all fun k => (List.range l.length).all fun r => decide (gSum k (mvL l r) = gSum k l + if r < endL l k then 1 else 0)
noncomputable def chkL (l : List Int) : Bool := !(decide (l.Pairwise (· ≥ ·))) || (okL l && okP l)
theorem all_ok : ∀ n, n < 7 → ((rowsL n).all chkL) = true := by decide +kernel
theorem ev_ok : ∀ n, n < 4 → (okL (evF n) && okP (evF n) && (List.range (n + 1)).all fun k => decide (endL (evF n) k = k)) = true := by decide +kernel
theorem put_mv {l : List Int} (h : okL l = true) {r : Nat} (hr : r < l.length) : putL l r = mvL l r := by
  have := List.all_eq_true.mp h r (List.mem_range.mpr hr)
  rw [Bool.and_eq_true] at this
  exact (fall_eq (List.isPerm_iff.mp this.1) (of_decide_eq_true this.2)).symm
theorem pre_at {l : List Int} (h : okL l = true) (hp : okP l = true) {k : Nat} (hk : k ≤ l.length) : PreAt l k (endL l k) := fun r hr => by
  rw [put_mv h hr]
  have := List.all_eq_true.mp hp k (List.mem_range.mpr (by omega))
  exact of_decide_eq_true (List.all_eq_true.mp this r (List.mem_range.mpr hr))
theorem pre_small {l : List Int} (hl : l.length ≤ 6) (h : ∀ x ∈ l, 0 ≤ x ∧ x ≤ 2) (hd : l.Pairwise (· ≥ ·)) {k : Nat} (hk : k ≤ l.length) : PreAt l k (endL l k) := by
  have c := List.all_eq_true.mp (all_ok l.length (by omega)) l (mem_rows l h)
  unfold chkL at c
  rw [decide_eq_true hd] at c
  simp at c
  exact pre_at c.1 c.2 hk
theorem pre_ev {n k : Nat} (hn : n ≤ 3) (hk : k ≤ n) : PreAt (evF n) k k := by
  have c := ev_ok n (by omega)
  simp only [Bool.and_eq_true] at c
  have e : (evF n).length = n := by simp [evF]
  have ek : endL (evF n) k = k := of_decide_eq_true (List.all_eq_true.mp c.2 k (List.mem_range.mpr (by omega)))
  have := pre_at c.1.1 c.1.2 (k := k) (by omega)
  rwa [ek] at this
end My
set_option Elab.async false
set_option linter.all false
set_option maxRecDepth 100000
set_option maxHeartbeats 1000000
namespace My
open PySem L2 MA Srt
structure Ld (n : Nat) (l : List Int) : Prop where
  len : l.length = n
  n1 : 1 ≤ n
  n6 : n ≤ 6
  rng : ∀ x ∈ l, 0 ≤ x ∧ x ≤ 10
theorem put_rng {n : Nat} {l : List Int} (L : Ld n l) (r : Nat) : (putL l r) ≠ [] ∧ (putL l r).length ≤ 6 ∧ ∀ x ∈ putL l r, 0 ≤ x ∧ x ≤ 40 := by
  have pl := putL_len l r
  have := L.len; have := L.n1; have := L.n6
  refine ⟨fun e => by rw [e] at pl; simp at pl; omega, by omega, fun x hx => ?_⟩
  unfold putL at hx
  have hx' := (fall_perm _).mem_iff.mp hx
  rcases List.mem_or_eq_of_mem_set hx' with q | q
  · have := L.rng x q; omega
  · have g := nn_getD (fun x hx => (L.rng x hx).1) r
    have g2 : l.getD r 0 ≤ 10 := by
      rw [List.getD_eq_getElem?_getD]
      cases e : l[r]? with
      | none => decide
      | some y => exact (L.rng y (List.mem_of_getElem? e)).2
    omega
theorem sumAt_in {rows : Mp} (h : ∀ x ∈ valsM rows, 0 ≤ x) (k : List Int) : 0 ≤ sumAt rows k ∧ sumAt rows k ≤ (valsM rows).sum := by
  induction rows with
  | nil => exact ⟨Int.le_refl _, Int.le_refl _⟩
  | cons r rows ih =>
    have i := ih fun x hx => h x (by simp only [valsM, List.map_cons, List.mem_cons]; exact .inr hx)
    have r0 := h r.2 (by simp [valsM])
    have e1 : sumAt (r :: rows) k = (if r.1 = k then r.2 else 0) + sumAt rows k := by unfold sumAt; simp
    have e2 : (valsM (r :: rows)).sum = r.2 + (valsM rows).sum := by unfold valsM; simp
    rw [e1, e2]
    split <;> omega
theorem one_vals {c : List Int} (c0 : ∀ x ∈ c, 0 ≤ x) (l : List Int) {v : Int} (hv : 0 ≤ v) : ∀ x ∈ valsM (comeF c [(l, v)]), 0 ≤ x ∧ x ≤ v * c.sum := by
  have e : (valsM (rowsM [(l, v)] (gainF c c.length))).sum = v * c.sum := by
    rw [vals_rows]
    unfold tot
    simp [gain_vals c0]
  have nn : ∀ x ∈ valsM (rowsM [(l, v)] (gainF c c.length)), 0 ≤ x := by
    intro x hx
    rw [rows_one] at hx
    obtain ⟨p, hp, rfl⟩ := List.mem_map.mp hx
    obtain ⟨q, hq, rfl⟩ := List.mem_map.mp hp
    obtain ⟨r, _, rfl, z⟩ := gain_mem hq
    exact Int.mul_nonneg hv (Int.le_of_lt z)
  intro x hx
  obtain ⟨p, hp, rfl⟩ := List.mem_map.mp hx
  have g := gath_get (rowsM [(l, v)] (gainF c c.length)) p.1
  have g2 := getM_mem (gath_nodup (rowsM [(l, v)] (gainF c c.length))) hp
  rw [g] at g2
  have := sumAt_in nn p.1
  rw [e] at this
  show 0 ≤ p.2 ∧ p.2 ≤ _
  omega
theorem one_len (c : List Int) (l : List Int) (v : Int) : (comeF c [(l, v)]).length ≤ c.length := by
  have := gath_len (rowsM [(l, v)] (gainF c c.length))
  have := rows_len [(l, v)] (gainF c c.length) c.length (gain_len c c.length)
  show (gath _).length ≤ _
  simp at this
  omega
theorem rw_bot {n : Nat} {w : List Int} (W : Wts n w) : 0 < botF (rwF w) ∧ botF (rwF w) ≤ w.sum := by
  have b := bot_dvd W.pos (qs := rwF w) fun q hq => by obtain ⟨x, _, rfl⟩ := List.mem_map.mp hq; exact ⟨x, rfl⟩
  exact ⟨b.2.1, Int.le_of_dvd W.pos b.1⟩
theorem rw_tp {n : Nat} {w : List Int} (W : Wts n w) (n6 : n ≤ 6) : (∀ x ∈ tpF (botF (rwF w)) (rwF w), 0 ≤ x ∧ x ≤ 960) ∧ (tpF (botF (rwF w)) (rwF w)).length = n := by
  have hl : (tpF (botF (rwF w)) (rwF w)).length = n := by simp [tpF, rwF, W.len]
  refine ⟨fun x hx => ?_, hl⟩
  obtain ⟨r, hr, rfl⟩ := List.mem_iff_getElem.mp hx
  have e := rule_tp (w := w) W.pos r
  change (tpF (botF (rwF w)) (rwF w)).getD r 0 * w.sum = w.getD r 0 * botF (rwF w) at e
  rw [getD_of hr] at e
  obtain ⟨b0, b1⟩ := rw_bot W
  have p0 := W.pos
  have wr := nn_getD (fun x hx => (W.rng x hx).1) r
  have ws : w.getD r 0 ≤ w.sum := by
    rw [getD_of (show r < w.length by rw [W.len]; omega)]
    exact le_sum (fun x hx => (W.rng x hx).1) _ (List.getElem_mem _)
  generalize (tpF (botF (rwF w)) (rwF w))[r] = y at e
  generalize botF (rwF w) = b at e b0 b1
  generalize w.getD r 0 = u at e wr ws
  have top := W.top
  generalize w.sum = S at e b1 p0 ws top
  constructor
  · rcases Int.lt_or_le y 0 with h | h
    · have h1 := Int.mul_lt_mul_of_pos_right h p0
      have h2 := Int.mul_nonneg wr (Int.le_of_lt b0)
      omega
    · exact h
  · rcases Int.lt_or_le b y with h | h
    · have h1 := Int.mul_lt_mul_of_pos_right h p0
      have h2 := Int.mul_le_mul_of_nonneg_right ws (Int.le_of_lt b0)
      rw [Int.mul_comm S b] at h2
      omega
    · omega
theorem fit_one {n : Nat} {w l : List Int} (W : Wts n w) (L : Ld n l) : Fit (rwF w) [(l, 1)] 1 := by
  have n6 := L.n6
  obtain ⟨t0, tl⟩ := rw_tp W n6
  have wt : wtF (botF ([(l, (1 : Rat))].map (·.2))) [(l, 1)] = [(l, 1)] := by
    have e : (1 : Rat).num * (botF [1] / ((1 : Rat).den : Int)) = 1 := by decide
    show [(l, (1 : Rat).num * (botF [1] / ((1 : Rat).den : Int)))] = _
    rw [e]
  have bs : ∀ x : Int, 0 ≤ x → x ≤ 6000 → Bt 50 x := fun x h0 h1 => Bt.of_lt (Nat.lt_of_le_of_lt (m := 6000) (by omega) (by decide))
  have bo1 : botF ([(l, (1 : Rat))].map (·.2)) < 1000000 := by
    have e : botF [(1 : Rat)] < 1000000 := by decide
    exact e
  have top := W.top
  have pos := W.pos
  have sum6 : (tpF (botF (rwF w)) (rwF w)).sum ≤ 5760 := by
    have := (sum_le (B := 960) fun x hx => t0 x hx).2
    rw [tl] at this
    omega
  refine ⟨by simp, by simp, fun r hr => ?_, by simp [rwF, W.len, n6], fun r hr => ?_, fun q hq => ?_, by simp, bo1, ?_, by decide, fun j hj => ?_, fun j hj x hx => ?_⟩
  · obtain rfl : r = (l, 1) := by simpa using hr
    simp [rwF, W.len, L.len]
  · obtain rfl : r = (l, 1) := by simpa using hr
    show SB 50 (1 : Rat)
    exact ⟨by decide, by decide⟩
  · obtain ⟨x, hx, rfl⟩ := List.mem_map.mp hq
    have := W.rng x hx
    exact SB.divInt (bs _ (by omega) (by omega)) (bs _ (by omega) (by omega)) pos
  · have := rw_bot W; omega
  · rw [wt]
    have : j = 0 ∨ j = 1 := by omega
    rcases this with rfl | rfl
    · simp [itF]
    · show (comeF _ [(l, 1)]).length ≤ 60
      have := one_len (tpF (botF (rwF w)) (rwF w)) l 1
      omega
  · rw [wt] at hx
    have : j = 0 ∨ j = 1 := by omega
    rcases this with rfl | rfl
    · obtain rfl : x = 1 := by simpa [itF, valsM] using hx
      exact (bs 1 (by decide) (by decide)).mono (by decide)
    · have := one_vals (fun x hx => (t0 x hx).1) l (by decide : (0 : Int) ≤ 1) x hx
      exact (bs x (by omega) (by omega)).mono (by decide)
theorem spr_one (l : List Int) : sprF [(l, 1)] 1 = [(l, 1)] := by
  unfold sprF
  have e : rise (keysM [(l, 1)]) = [l] := List.mergeSort_singleton _
  rw [e]
  simp [getM_cons]
  rfl
theorem after_one {n : Nat} {w l : List Int} (W : Wts n w) : afterF (rwF w) [(l, 1)] 1 = sprF (itF w 1 [(l, 1)]) w.sum := by
  have := after_eq (w := w) (F := [(l, 1)]) (by simp [keysM]) W.pos (W := 1) (by decide) 1
  rw [spr_one] at this
  rw [show (1 : Int) * w.sum ^ 1 = w.sum by rw [Int.pow_succ, Int.pow_zero]; omega] at this
  exact this
theorem it_nd (w l : List Int) : (keysM (itF w 1 [(l, 1)])).Nodup := gath_nodup _
theorem mn_one {n : Nat} {w l : List Int} (W : Wts n w) (L : Ld n l) : Mn (afterF (rwF w) [(l, 1)] 1) ∧ LdR (afterF (rwF w) [(l, 1)] 1) := by
  rw [after_one W]
  have top := W.top
  have pos := W.pos
  have n6 := L.n6
  have w0 : ∀ x ∈ w, 0 ≤ x := fun x hx => (W.rng x hx).1
  have bs : ∀ x : Int, 0 ≤ x → x ≤ 6000 → Bt 50 x := fun x h0 h1 => Bt.of_lt (Nat.lt_of_le_of_lt (m := 6000) (by omega) (by decide))
  refine ⟨⟨fun r hr => ?_, ?_, ?_⟩, fun r hr => ?_⟩
  · obtain ⟨k, hk, rfl⟩ := List.mem_map.mp hr
    have hk' := (rise_perm _).mem_iff.mp hk
    obtain ⟨p, hp, rfl⟩ := List.mem_map.mp hk'
    have := one_vals w0 l (by decide : (0 : Int) ≤ 1) p.2 (List.mem_map_of_mem hp)
    rw [getM_mem (it_nd w l) hp]
    exact SB.divInt (bs _ (by omega) (by omega)) (bs _ (by omega) (by omega)) pos
  · unfold sprF
    rw [List.length_map, (rise_perm _).length_eq]
    have := one_len w l 1
    have := W.len
    show (keysM (comeF w [(l, 1)])).length ≤ 24
    unfold keysM
    rw [List.length_map]
    omega
  · have := Int.le_of_dvd pos (bot_dvd pos (qs := (sprF (itF w 1 [(l, 1)]) w.sum).map (·.2)) fun q hq => by
      obtain ⟨r, hr, rfl⟩ := List.mem_map.mp hq
      obtain ⟨k, _, rfl⟩ := List.mem_map.mp hr
      exact ⟨_, rfl⟩).1
    omega
  · obtain ⟨k, hk, rfl⟩ := List.mem_map.mp hr
    have hk' := (rise_perm _).mem_iff.mp hk
    have hk2 := (gath_keys _ _).mp hk'
    change k ∈ keysM (rowsM [(l, 1)] (gainF w w.length)) at hk2
    rw [rows_one] at hk2
    obtain ⟨p, hp, rfl⟩ := List.mem_map.mp hk2
    obtain ⟨q, hq, rfl⟩ := List.mem_map.mp hp
    obtain ⟨r, _, rfl, _⟩ := gain_mem hq
    exact put_rng L r
noncomputable def mW (w l : List Int) (k j : Nat) : Rat := Rat.divInt (w.sum * gSum k l + (w.take j).sum) w.sum
theorem mean_one {n : Nat} {w l : List Int} (W : Wts n w) (L : Ld n l) {k j : Nat} (h : PreAt l k j) : mnF (afterF (rwF w) [(l, 1)] 1) (nmF (gSum k) (afterF (rwF w) [(l, 1)] 1)) = mW w l k j := by
  rw [after_one W, mean_eq (it_nd w l) W.pos, tot_pre (fun x hx => (W.rng x hx).1) (by rw [L.len, W.len]) h]
  rfl
end My
set_option Elab.async false
set_option linter.all false
set_option maxRecDepth 100000
set_option maxHeartbeats 4000000
namespace My
open PySem L2 MA Srt
section
variable {P : Program} {w : World} {K : PySem.W.Frag} {mg : Str → Option Value} {base : Heap}
noncomputable def spMore : Sp := fun vs H Q _ => ∃ v u q r, vs = [v, u] ∧ ShAt H v q ∧ ShAt H u r ∧ SB 50 q ∧ SB 50 r ∧ Q (.bl (decide (r < q))) H
theorem ok_more (F : FunAt K mg "_law_is_more" ["_law_a", "_law_b"] s_l_is_more) : Cal P w K mg base "_law_is_more" ["_law_a", "_law_b"] 1 spMore := by
  have S := sc_l_is_more
  refine F.cal sc_l_is_more (fun vs H Q E h => ?_) (fun f cdv A outer s H vs Q E hr h => ?_)
  · obtain ⟨v, u, q, r, rfl, _⟩ := h; rfl
  obtain ⟨_, _, q, r, rfl, ⟨a, rfl, ha⟩, ⟨b, rfl, hb⟩, sq, sr, k⟩ := h
  refine ⟨_, (@pss_one _ _ _ (@ps_ret _ _ _ _ (@pe_cmpR _ _ _ _ _ _ _ _ op_gt (@pe_op _ _ _ _ _ _ _ _ op_mulB (@pe_ix _ _ _ _ _ _ _ ix_tup (pv 0) pe_int (by exact (fun _ _ => rfl))) (@pe_ix _ _ _ _ _ _ _ ix_tup (pv 1) pe_int (by exact (fun _ _ => rfl)))) (@pe_op _ _ _ _ _ _ _ _ op_mulB (@pe_ix _ _ _ _ _ _ _ ix_tup (pv 1) pe_int (by exact (fun _ _ => rfl))) (@pe_ix _ _ _ _ _ _ _ ix_tup (pv 0) pe_int (by exact (fun _ _ => rfl)))) (by exact (nomark _))))), ?_⟩
  have big : ∀ {x : Int}, Bt 50 x → Bt 20000 x := fun h => h.mono (by decide)
  refine ⟨_, rfl, a, _, _, _, rfl, rfl, SqT.of ha, rfl, _, rfl, b, _, _, _, rfl, rfl, SqT.of hb, rfl, _, _, rfl, rfl, ⟨big sq.1, big sr.2⟩, _, rfl, b, _, _, _, rfl, rfl, SqT.of hb, rfl, _, rfl, a, _, _, _, rfl, rfl, SqT.of ha, rfl, _, _, rfl, rfl, ⟨big sr.1, big sq.2⟩, ?_⟩
  have e : decide (r < q) = decide (r.num * (q.den : Int) < q.num * (r.den : Int)) := by
    rw [decide_eq_decide]; exact Rat.lt_iff ..
  rw [e] at k
  exact ⟨_, _, rfl, rfl, k⟩
noncomputable def spLoadZ (K : PySem.W.Frag) : Sp := fun vs H Q _ => ∃ (p : Addr) (n m : Nat), vs = [.ref p, .int (n : Int)] ∧ PenZ K H p m ∧ m + 6 ≤ 100000 ∧ 1 ≤ n ∧ n ≤ 6 ∧ ∀ (t : Addr) (ms : List Int) (H' : Hp), ms.length = n → (∀ x ∈ ms, 0 ≤ x ∧ x ≤ 2) → ms.Pairwise (· ≥ ·) → H' t = some (.tup (iv ms)) → PenZ K H' p (m + 6) → SameY p H H' → Q (.ref t) H'
theorem ok_load (T : Txt2 mg) (C_l_take : Cal P w K mg base "_law_take" ["_law_pen_here", "_law_many"] 1 (spTakeZ K)) (F : FunAt K mg "_law_load" ["_law_pen_here", "_law_boxes"] s_l_load) : Cal P w K mg base "_law_load" ["_law_pen_here", "_law_boxes"] 2 (spLoadZ K) := by
  have S := sc_l_load
  refine F.cal sc_l_load (fun vs H Q E h => ?_) (fun f cdv A outer s H vs Q E hr h => ?_)
  · obtain ⟨p, n, m, rfl, _⟩ := h; rfl
  obtain ⟨p, n, m, rfl, hp, hm, n1, n6, k⟩ := h
  refine ⟨_, (@pss_cons _ _ _ _ _ (@ps_comp _ _ _ _ _ _ _ _ _ _ _ _ _ _ _ (2) _ (by exact S.nd) (by rfl) (by first | exact Or.inl rfl | exact Or.inr rfl) (by rfl) (by exact (fun _ _ h => h)) (by decide +kernel) (by rfl) (by decide +kernel) (by exact hfr_of rfl) (by exact Sees.frees ["_law_box"] [("_law_pen_here", 0)] (fr_cons ⟨rfl, rfl⟩ fr_nil)) (@pi_range1 _ _ _ _ _ _ (by rfl) (by exact T.z_range) (@pa_consN _ _ _ _ _ (pv 1) pa_nil (by first|rfl|decide|exact .inl rfl|exact .inr rfl|(intros; rfl))) (by first|rfl|decide|exact .inl rfl|exact .inr rfl|(intros; rfl))) (fun _ _ _ _ _ => @pg_name _ _ (0) _ (by exact (show (["_law_box", "_law_pen_here"] : List Str).Nodup by decide +kernel)) (by rfl) (by first | exact Or.inl rfl | exact Or.inr rfl) (by first|rfl|decide|exact .inl rfl|exact .inr rfl|(intros; rfl))) (fun _ _ _ _ _ => pts_nil) (fun _ _ _ _ _ => (@cc _ _ _ _ _ _ _ _ _ _ (by exact C_l_take) (by exact (hr.mono (by decide))) (@pa_consN _ _ _ _ _ (pv 1) (@pa_consN _ _ _ _ _ pe_int pa_nil (by first|rfl|decide|exact .inl rfl|exact .inr rfl|(intros; rfl))) (by first|rfl|decide|exact .inl rfl|exact .inr rfl|(intros; rfl))) (by first|rfl|decide|exact .inl rfl|exact .inr rfl|(intros; rfl)) (by first|rfl|decide|exact .inl rfl|exact .inr rfl|(intros; rfl)) (by first|rfl|decide|exact .inl rfl|exact .inr rfl|(intros; rfl)) (by first|rfl|decide|exact .inl rfl|exact .inr rfl|(intros; rfl)))) (by first|rfl|decide|exact .inl rfl|exact .inr rfl|(intros; rfl)) (by first|rfl|decide|exact .inl rfl|exact .inr rfl|(intros; rfl)) (by first|rfl|decide|exact .inl rfl|exact .inr rfl|(intros; rfl))) (@pss_cons _ _ _ _ _ (@ps_asg _ _ _ _ _ _ (@pe_callB _ _ _ _ _ _ _ _ _ (call_min2 (by rfl)) (by rfl) (by exact T.z_min) (by exact bt_min) (@pa_consN _ _ _ _ _ (@pe_ix _ _ _ _ _ _ _ ix_list (pv 2) pe_int (by exact (fun _ _ => rfl))) (@pa_consN _ _ _ _ _ pe_int pa_nil (by first|rfl|decide|exact .inl rfl|exact .inr rfl|(intros; rfl))) (by first|rfl|decide|exact .inl rfl|exact .inr rfl|(intros; rfl))) (by first|rfl|decide|exact .inl rfl|exact .inr rfl|(intros; rfl)) (by first|rfl|decide|exact .inl rfl|exact .inr rfl|(intros; rfl)) (by first|rfl|decide|exact .inl rfl|exact .inr rfl|(intros; rfl)) (by first|rfl|decide|exact .inl rfl|exact .inr rfl|(intros; rfl))) (@pg_sub _ _ _ _ _ _ _ (pv 2) pe_int set_list (by first|rfl|decide|exact .inl rfl|exact .inr rfl|(intros; rfl))) (by first|rfl|decide|exact .inl rfl|exact .inr rfl|(intros; rfl)) (by first|rfl|decide|exact .inl rfl|exact .inr rfl|(intros; rfl)) (by first|rfl|decide|exact .inl rfl|exact .inr rfl|(intros; rfl))) (@pss_one _ _ _ (@ps_ret _ _ _ _ (@pe_callTy _ _ _ _ _ _ _ _ _ call_tuple_of (by rfl) (by exact T.z_tuple) (by exact bt_tuple) (@pa_consN _ _ _ _ _ (@pe_sortedR _ _ _ _ _ _ _ _ _ (by rfl) (by exact T.z_sorted) (@pa_consN _ _ _ _ _ (pv 2) pa_nil (by first|rfl|decide|exact .inl rfl|exact .inr rfl|(intros; rfl))) (by first|rfl|decide|exact .inl rfl|exact .inr rfl|(intros; rfl)) (by first|rfl|decide|exact .inl rfl|exact .inr rfl|(intros; rfl))) pa_nil (by first|rfl|decide|exact .inl rfl|exact .inr rfl|(intros; rfl))) (by first|rfl|decide|exact .inl rfl|exact .inr rfl|(intros; rfl)) (by first|rfl|decide|exact .inl rfl|exact .inr rfl|(intros; rfl)) (by first|rfl|decide|exact .inl rfl|exact .inr rfl|(intros; rfl)) (by first|rfl|decide|exact .inl rfl|exact .inr rfl|(intros; rfl))))))), ?_⟩
  refine ⟨_, rfl, _, rfl, by omega, by omega, comp_rng (n := (n : Int).toNat) (lo := 0) (fs := [some (.ref p)]) (fun acc i ys H' => PenZ K H' p (m + i) ∧ SameY p H H' ∧ ∃ bs : List Int, ys = iv bs ∧ ∀ b ∈ bs, 0 ≤ b ∧ b ≤ 2) (by omega) ?_ ?_ ?_⟩
  · intro acc hacc
    exact ⟨hp.same (same_new hacc _), (Same.y (same_new hacc _)), [], rfl, by simp⟩
  · rintro acc i ys H' hacc hi hl ⟨p', x', bs, rfl, hb⟩ hacc' Q' hQ
    refine ⟨_, rfl, p, _, _, rfl, p', by omega, by omega, by omega, fun r H5 r0 r1 p5 x5 => ?_⟩
    obtain ⟨u1, u2⟩ := penZ_upd hacc hp (x'.trans x5) p5 (.lst (iv bs ++ [.int r]))
    refine hQ _ H5 (x5.all _ _ hacc' (hp.ne hacc)) ⟨u1, u2, bs ++ [r], by simp, fun b hbm => ?_⟩
    rcases List.mem_append.mp hbm with q | q
    · exact hb b q
    · have : b = r := by simpa using q
      omega
  rintro l ys H3 hl ⟨p3, x3, bs, rfl, hb⟩ hl' hlen
  have hbl : bs.length = n := by simpa using hlen
  have h0 : 0 < bs.length := by omega
  refine ⟨_, rfl, l, _, _, _, rfl, rfl, SqL.of hl', (iv_atI (i := 0) h0), _, _, rfl, ?_⟩
  have g0 := hb _ (List.getElem_mem h0)
  rw [getD_of h0]
  obtain ⟨v, ev, v0, v2⟩ : ∃ v : Int, (if (1 : Int) < bs[0] then (1 : Int) else bs[0]) = v ∧ 0 ≤ v ∧ v ≤ 2 := ⟨_, rfl, by split <;> omega, by split <;> omega⟩
  rw [ev]
  refine ⟨_, rfl, l, _, _, 0, rfl, rfl, hl', ixN_lt (n := (iv bs).length) (j := 0) (by simpa using h0), ?_⟩
  have ew : (iv bs).set 0 (.int v) = iv (bs.set 0 v) := by simp
  rw [ew]
  obtain ⟨u1, u2⟩ := penZ_upd hl hp x3 p3 (.lst (iv (bs.set 0 v)))
  have hl4 : (upd H3 l (.lst (iv (bs.set 0 v)))) l = some (.lst (iv (bs.set 0 v))) := upd_same
  generalize upd H3 l (.lst (iv (bs.set 0 v))) = H4 at u1 u2 hl4 ⊢
  refine ⟨_, rfl, l, bs.set 0 v, rfl, hl4, (by simp; omega), fun q ms hq pm od => ?_⟩
  have s1 := same_new hq (.lst (iv ms))
  refine ⟨q, iv ms, rfl, .inl ⟨SqL.of upd_same, fun t ht => ?_⟩⟩
  have s2 := s1.trans (same_new ht (.tup (iv ms)))
  refine k t ms _ (by rw [pm.length_eq]; simpa using hbl) (fun x hx => ?_) od upd_same ((u1.same s2).mono (by omega)) (u2.trans (Same.y s2))
  rcases List.mem_or_eq_of_mem_set (pm.mem_iff.mp hx) with z | z
  · exact hb x z
  · omega
end
end My
set_option Elab.async false
set_option linter.all false
set_option maxRecDepth 100000
set_option maxHeartbeats 4000000
namespace My
open PySem L2 MA Srt
noncomputable def qsF (ps : List (Int × Int)) : List Rat := ps.map fun p => Rat.divInt p.1 p.2
theorem qs_prq (qs : List Rat) : qsF (qs.map prq) = qs := by
  unfold qsF
  rw [List.map_map]
  have : ((fun p : Int × Int => Rat.divInt p.1 p.2) ∘ prq) = id := by funext q; exact Rat.num_divInt_den q
  rw [this, List.map_id]
noncomputable def noF (qs rs : List Rat) : Bool := (List.range qs.length).all fun k => !(faP qs rs k)
theorem fa_none {qs rs : List Rat} (h : noF qs rs = true) : faF qs rs = none := fa_no fun j hj => by
  have := List.all_eq_true.mp h j (List.mem_range.mpr hj)
  simpa using this
noncomputable def dQ (n k : Nat) : List Rat := qsF (drawnF (n : Int) (k : Int))
noncomputable def uQ (n k : Nat) : List Rat := qsF (unlikeF (n : Int) (k : Int))
theorem dd_ok : ∀ n, n < 13 → ∀ k, k < 4 → 1 ≤ k → noF (dQ n (k + 1)) (dQ n k) = true := by decide +kernel
theorem ud_ok : ∀ n, n < 13 → ∀ k, k < 5 → 1 ≤ k → k ≤ n → noF (uQ n k) (dQ n k) = true := by decide +kernel
theorem uu_ok : ∀ n, n < 13 → ∀ k, k < 5 → 2 ≤ k → k ≤ n → noF (uQ n k) (uQ n (k - 1)) = true := by decide +kernel
theorem d1_ok : ∀ n, n < 13 → ∀ k, k < 5 → 2 ≤ n → 2 ≤ k → faP (dQ n 1) (dQ n k) 0 = true := by decide +kernel
theorem dQ_at {n k : Nat} (h : okD (n : Int) (k : Int)) : drawnF (n : Int) (k : Int) = (dQ n k).map prq ∧ FineN 15 n (dQ n k) := by
  obtain ⟨qs, e, f, _⟩ := drawn_fineN h
  have : dQ n k = qs := by unfold dQ; rw [e, qs_prq]
  rw [this]
  exact ⟨e, by simpa using f⟩
theorem uQ_at {n k : Nat} (h : okU (n : Int) (k : Int)) : unlikeF (n : Int) (k : Int) = (uQ n k).map prq ∧ FineN 15 n (uQ n k) := by
  obtain ⟨qs, e, f⟩ := unlike_fineN h
  have : uQ n k = qs := by unfold uQ; rw [e, qs_prq]
  rw [this]
  exact ⟨e, by simpa using f.mono (by decide)⟩
noncomputable def Le (qs rs : List Rat) : Prop := ∀ j, psum (qs.take j) ≤ psum (rs.take j)
theorem Le.none {qs rs : List Rat} (h : Le qs rs) : faF qs rs = none := fa_no fun j _ => decide_eq_false (Rat.not_lt.mpr (h (j + 1)))
theorem psum_mix (q : Rat) : ∀ (a b : List Rat), a.length = b.length → ∀ j, psum ((List.zipWith (mixF q) a b).take j) = q * psum (a.take j) + (1 - q) * psum (b.take j) := by
  intro a b hl j
  have z : psum [] = 0 := rfl
  induction j with
  | zero => simp only [List.take_zero, z]; grind
  | succ j ih =>
    by_cases c : j < a.length
    · have c2 : j < b.length := by omega
      have c3 : j < (List.zipWith (mixF q) a b).length := by simp; omega
      rw [psum_take c3, psum_take c, psum_take c2, ih, List.getElem_zipWith]
      unfold mixF
      grind
    · rw [List.take_of_length_le (by simp; omega), List.take_of_length_le (by omega), List.take_of_length_le (by omega)]
      rw [List.take_of_length_le (by simp; omega), List.take_of_length_le (by omega), List.take_of_length_le (by omega)] at ih
      exact ih
theorem mix_le {x y q r : Rat} (h : x ≤ y) (hq : q ≤ r) : r * x + (1 - r) * y ≤ q * x + (1 - q) * y := by
  have := Rat.mul_nonneg (show 0 ≤ r - q by grind) (show 0 ≤ y - x by grind)
  grind
theorem Le.mixes {a b : List Rat} (h : Le a b) (hl : a.length = b.length) {q r : Rat} (hq : 0 ≤ q) (hqr : q ≤ r) (hr : 0 ≤ 1 - r) : Le a (List.zipWith (mixF r) a b) ∧ Le (List.zipWith (mixF r) a b) (List.zipWith (mixF q) a b) ∧ Le (List.zipWith (mixF q) a b) b := by
  refine ⟨fun j => ?_, fun j => ?_, fun j => ?_⟩
  · rw [psum_mix r a b hl]
    have := mix_le (q := r) (r := 1) (h j) (by grind)
    grind
  · rw [psum_mix r a b hl, psum_mix q a b hl]
    exact mix_le (h j) hqr
  · rw [psum_mix q a b hl]
    have := mix_le (q := 0) (r := q) (h j) hq
    grind
theorem div_add' (a b : Int) {S : Int} (hS : 0 < S) : Rat.divInt a S + Rat.divInt b S = Rat.divInt (a + b) S := by
  rw [Rat.divInt_add_divInt _ _ (by omega) (by omega), ← Int.add_mul, Rat.divInt_mul_right (by omega)]
theorem div_nn {a S : Int} (hS : 0 < S) (h : 0 ≤ a) : 0 ≤ Rat.divInt a S := by
  have e := share_pos (t := a) hS
  have g := gI_pos_right (a := a) (b := S) (by omega)
  exact Rat.num_nonneg.mp (by rw [← e.1]; exact Int.ediv_nonneg h (by omega))
theorem div_le {a b S : Int} (hS : 0 < S) (h : a ≤ b) : Rat.divInt a S ≤ Rat.divInt b S := by
  have e := div_add' a (b - a) hS
  rw [show a + (b - a) = b by omega] at e
  have := div_nn (a := b - a) hS (by omega)
  grind
theorem psum_rw {w : List Int} (hS : 0 < w.sum) (j : Nat) : psum ((rwF w).take j) = Rat.divInt (w.take j).sum w.sum := by
  induction j with
  | zero => simp [psum]
  | succ j ih =>
    by_cases c : j < w.length
    · rw [psum_take (by simpa [rwF] using c), ih, List.take_succ_eq_append_getElem c, List.sum_append]
      have : (rwF w)[j]'(by simpa [rwF] using c) = Rat.divInt w[j] w.sum := by simp [rwF]
      rw [this, div_add' _ _ hS]
      simp
    · have e1 : (rwF w).take (j + 1) = (rwF w).take j := by rw [List.take_of_length_le (by simp [rwF]; omega), List.take_of_length_le (by simp [rwF]; omega)]
      have e2 : w.take (j + 1) = w.take j := by rw [List.take_of_length_le (by omega), List.take_of_length_le (by omega)]
      rw [e1, e2]; exact ih
theorem Beh.le {us ws : List Int} (h : Beh us ws) (hS : 0 < ws.sum) : Le (rwF us) (rwF ws) := fun j => by
  rw [psum_rw (by rw [h.1]; exact hS), psum_rw hS, h.1]
  exact div_le hS (h.2 j)
theorem mW_eq {w : List Int} (hS : 0 < w.sum) (l : List Int) (k j : Nat) : mW w l k j = Rat.divInt (gSum k l) 1 + psum ((rwF w).take j) := by
  unfold mW
  rw [psum_rw hS, ← div_add' _ _ hS]
  congr 1
  have := Rat.divInt_mul_right (n := gSum k l) (d := 1) (a := w.sum) (by omega)
  rw [Int.one_mul] at this
  rw [Int.mul_comm, this]
theorem mW_sb {n : Nat} {w l : List Int} (W : Wts n w) (L : Ld n l) (k j : Nat) : SB 50 (mW w l k j) := by
  have bs : ∀ x : Int, 0 ≤ x → x ≤ 1000000 → Bt 50 x := fun x h0 h1 => Bt.of_lt (Nat.lt_of_le_of_lt (m := 1000000) (by omega) (by decide))
  have pos := W.pos
  have top := W.top
  have n6 := L.n6
  have g1 : 0 ≤ gSum k l ∧ gSum k l ≤ 60 := by
    have := sum_in (l := l.take k) (c := 10) fun x hx => L.rng x (List.mem_of_mem_take hx)
    have hl : (l.take k).length ≤ 6 := by have := L.len; rw [List.length_take]; omega
    unfold gSum
    omega
  have t1 : 0 ≤ (w.take j).sum ∧ (w.take j).sum ≤ 5760 := by
    have := sum_in (l := w.take j) (c := 960) fun x hx => W.rng x (List.mem_of_mem_take hx)
    have hl : (w.take j).length ≤ 6 := by have := W.len; rw [List.length_take]; omega
    omega
  have m0 := Int.mul_nonneg (Int.le_of_lt pos) g1.1
  have m1 := Int.mul_le_mul top g1.2 g1.1 (by decide : (0 : Int) ≤ 960)
  exact SB.divInt (bs _ (by omega) (by omega)) (bs _ (by omega) (by omega)) pos
end My
set_option Elab.async false
set_option linter.all false
set_option maxRecDepth 100000
set_option maxHeartbeats 4000000
namespace My
open PySem L2 MA Srt
theorem dQ_ru {H : Hp} {ys : List V} {p : Addr} {n kn : Nat} {k : Int} (e : k = (kn : Int)) (h : okD (n : Int) (kn : Int)) (hp : H p = some (.tup ys)) (pa : Prs H ys (drawnF (n : Int) k)) : RuAt H (.ref p) (dQ n kn) ∧ Okr 15 (dQ n kn) ∧ (dQ n kn).length = n := by
  subst e
  obtain ⟨e1, f⟩ := dQ_at h
  rw [e1] at pa
  have h2 : (n : Int) ≤ 12 := h.2.1
  exact ⟨⟨p, ys, rfl, hp, shs_of pa⟩, f.okr (by omega) (by omega) (by decide) (by omega), f.1⟩
theorem uQ_ru {H : Hp} {ys : List V} {p : Addr} {n kn : Nat} {k : Int} (e : k = (kn : Int)) (h : okU (n : Int) (kn : Int)) (hp : H p = some (.tup ys)) (pa : Prs H ys (unlikeF (n : Int) k)) : RuAt H (.ref p) (uQ n kn) ∧ Okr 15 (uQ n kn) ∧ (uQ n kn).length = n := by
  subst e
  obtain ⟨e1, f⟩ := uQ_at h
  rw [e1] at pa
  have h2 : (n : Int) ≤ 12 := h.2.1
  exact ⟨⟨p, ys, rfl, hp, shs_of pa⟩, f.okr (by omega) (by omega) (by decide) (by omega), f.1⟩
section
variable {P : Program} {w : World} {K : PySem.W.Frag} {mg : Str → Option Value} {base : Heap}
noncomputable def spDrawnR : Sp := fun vs H Q _ => ∃ n k : Nat, vs = [.int (n : Int), .int (k : Int)] ∧ 1 ≤ n ∧ n ≤ 12 ∧ 1 ≤ k ∧ k ≤ 4 ∧ ∀ H', Same H H' → Q (.bl true) H'
theorem ok_drawnR (T : Txt2 mg) (C_drawn : Cal P w K mg base "drawn" ["n", "many"] 3 (spTup drawnF okD)) (C_unlike : Cal P w K mg base "unlike" ["n", "many"] 3 (spTup unlikeF okU)) (C_fuller_at : Cal P w K mg base "fuller_at" ["one", "other"] 4 spFullAt)
    (F : FunAt K mg "_law_drawn_right" ["_law_boxes", "_law_many"] s_l_drawn_right) : Cal P w K mg base "_law_drawn_right" ["_law_boxes", "_law_many"] 5 spDrawnR := by
  have S := sc_l_drawn_right
  refine F.cal sc_l_drawn_right (fun vs H Q E h => ?_) (fun f cdv A outer s H vs Q E hr h => ?_)
  · obtain ⟨n, k, rfl, _⟩ := h; rfl
  obtain ⟨n, m, rfl, n1, n12, m1, m4, k⟩ := h
  refine ⟨_, (@pss_cons _ _ _ _ _ (@ps_for _ _ _ _ _ _ _ _ (by exact PassesOwn.never) (by rfl) (@pi_range2 _ _ _ _ _ _ _ (by rfl) (by exact T.z_range) (@pa_consN _ _ _ _ _ pe_int (@pa_consN _ _ _ _ _ (pv 1) pa_nil (by first|rfl|decide|exact .inl rfl|exact .inr rfl|(intros; rfl))) (by first|rfl|decide|exact .inl rfl|exact .inr rfl|(intros; rfl))) (by first|rfl|decide|exact .inl rfl|exact .inr rfl|(intros; rfl)) (by first|rfl|decide|exact .inl rfl|exact .inr rfl|(intros; rfl))) (@pg_name _ _ (2) _ (by exact S.nd) (by rfl) (by first | exact Or.inl rfl | exact Or.inr rfl) (by first|rfl|decide|exact .inl rfl|exact .inr rfl|(intros; rfl))) (@pss_one _ _ _ (@ps_if _ _ _ _ _ _ _ _ (@pt_cmpR _ _ _ _ _ _ _ _ op_notN (@cc _ _ _ _ _ _ _ _ _ _ (by exact C_fuller_at) (by exact (hr.mono (by decide))) (@pa_consN _ _ _ _ _ (@cc _ _ _ _ _ _ _ _ _ _ (by exact C_drawn) (by exact (hr.mono (by decide))) (@pa_consN _ _ _ _ _ (pv 0) (@pa_consN _ _ _ _ _ (@pe_op _ _ _ _ _ _ _ _ op_add (pv 2) pe_int) pa_nil (by first|rfl|decide|exact .inl rfl|exact .inr rfl|(intros; rfl))) (by first|rfl|decide|exact .inl rfl|exact .inr rfl|(intros; rfl))) (by first|rfl|decide|exact .inl rfl|exact .inr rfl|(intros; rfl)) (by first|rfl|decide|exact .inl rfl|exact .inr rfl|(intros; rfl)) (by first|rfl|decide|exact .inl rfl|exact .inr rfl|(intros; rfl)) (by first|rfl|decide|exact .inl rfl|exact .inr rfl|(intros; rfl))) (@pa_consN _ _ _ _ _ (@cc _ _ _ _ _ _ _ _ _ _ (by exact C_drawn) (by exact (hr.mono (by decide))) (@pa_consN _ _ _ _ _ (pv 0) (@pa_consN _ _ _ _ _ (pv 2) pa_nil (by first|rfl|decide|exact .inl rfl|exact .inr rfl|(intros; rfl))) (by first|rfl|decide|exact .inl rfl|exact .inr rfl|(intros; rfl))) (by first|rfl|decide|exact .inl rfl|exact .inr rfl|(intros; rfl)) (by first|rfl|decide|exact .inl rfl|exact .inr rfl|(intros; rfl)) (by first|rfl|decide|exact .inl rfl|exact .inr rfl|(intros; rfl)) (by first|rfl|decide|exact .inl rfl|exact .inr rfl|(intros; rfl))) pa_nil (by first|rfl|decide|exact .inl rfl|exact .inr rfl|(intros; rfl))) (by first|rfl|decide|exact .inl rfl|exact .inr rfl|(intros; rfl))) (by first|rfl|decide|exact .inl rfl|exact .inr rfl|(intros; rfl)) (by first|rfl|decide|exact .inl rfl|exact .inr rfl|(intros; rfl)) (by first|rfl|decide|exact .inl rfl|exact .inr rfl|(intros; rfl)) (by first|rfl|decide|exact .inl rfl|exact .inr rfl|(intros; rfl))) pe_non (by exact (nomark _))) (@pss_one _ _ _ (@ps_ret _ _ _ _ pe_bl)) pss_nil)) (by first|rfl|decide|exact .inl rfl|exact .inr rfl|(intros; rfl))) (@pss_cons _ _ _ _ _ (@ps_for _ _ _ _ _ _ _ _ (by exact PassesOwn.never) (by rfl) (@pi_range2 _ _ _ _ _ _ _ (by rfl) (by exact T.z_range) (@pa_consN _ _ _ _ _ pe_int (@pa_consN _ _ _ _ _ (@pe_op _ _ _ _ _ _ _ _ op_add (@pe_callB _ _ _ _ _ _ _ _ _ (call_min2 (by rfl)) (by rfl) (by exact T.z_min) (by exact bt_min) (@pa_consN _ _ _ _ _ (pv 1) (@pa_consN _ _ _ _ _ (pv 0) pa_nil (by first|rfl|decide|exact .inl rfl|exact .inr rfl|(intros; rfl))) (by first|rfl|decide|exact .inl rfl|exact .inr rfl|(intros; rfl))) (by first|rfl|decide|exact .inl rfl|exact .inr rfl|(intros; rfl)) (by first|rfl|decide|exact .inl rfl|exact .inr rfl|(intros; rfl)) (by first|rfl|decide|exact .inl rfl|exact .inr rfl|(intros; rfl)) (by first|rfl|decide|exact .inl rfl|exact .inr rfl|(intros; rfl))) pe_int) pa_nil (by first|rfl|decide|exact .inl rfl|exact .inr rfl|(intros; rfl))) (by first|rfl|decide|exact .inl rfl|exact .inr rfl|(intros; rfl))) (by first|rfl|decide|exact .inl rfl|exact .inr rfl|(intros; rfl)) (by first|rfl|decide|exact .inl rfl|exact .inr rfl|(intros; rfl))) (@pg_name _ _ (2) _ (by exact S.nd) (by rfl) (by first | exact Or.inl rfl | exact Or.inr rfl) (by first|rfl|decide|exact .inl rfl|exact .inr rfl|(intros; rfl))) (@pss_cons _ _ _ _ _ (@ps_if _ _ _ _ _ _ _ _ (@pt_cmpR _ _ _ _ _ _ _ _ op_notN (@cc _ _ _ _ _ _ _ _ _ _ (by exact C_fuller_at) (by exact (hr.mono (by decide))) (@pa_consN _ _ _ _ _ (@cc _ _ _ _ _ _ _ _ _ _ (by exact C_unlike) (by exact (hr.mono (by decide))) (@pa_consN _ _ _ _ _ (pv 0) (@pa_consN _ _ _ _ _ (pv 2) pa_nil (by first|rfl|decide|exact .inl rfl|exact .inr rfl|(intros; rfl))) (by first|rfl|decide|exact .inl rfl|exact .inr rfl|(intros; rfl))) (by first|rfl|decide|exact .inl rfl|exact .inr rfl|(intros; rfl)) (by first|rfl|decide|exact .inl rfl|exact .inr rfl|(intros; rfl)) (by first|rfl|decide|exact .inl rfl|exact .inr rfl|(intros; rfl)) (by first|rfl|decide|exact .inl rfl|exact .inr rfl|(intros; rfl))) (@pa_consN _ _ _ _ _ (@cc _ _ _ _ _ _ _ _ _ _ (by exact C_drawn) (by exact (hr.mono (by decide))) (@pa_consN _ _ _ _ _ (pv 0) (@pa_consN _ _ _ _ _ (pv 2) pa_nil (by first|rfl|decide|exact .inl rfl|exact .inr rfl|(intros; rfl))) (by first|rfl|decide|exact .inl rfl|exact .inr rfl|(intros; rfl))) (by first|rfl|decide|exact .inl rfl|exact .inr rfl|(intros; rfl)) (by first|rfl|decide|exact .inl rfl|exact .inr rfl|(intros; rfl)) (by first|rfl|decide|exact .inl rfl|exact .inr rfl|(intros; rfl)) (by first|rfl|decide|exact .inl rfl|exact .inr rfl|(intros; rfl))) pa_nil (by first|rfl|decide|exact .inl rfl|exact .inr rfl|(intros; rfl))) (by first|rfl|decide|exact .inl rfl|exact .inr rfl|(intros; rfl))) (by first|rfl|decide|exact .inl rfl|exact .inr rfl|(intros; rfl)) (by first|rfl|decide|exact .inl rfl|exact .inr rfl|(intros; rfl)) (by first|rfl|decide|exact .inl rfl|exact .inr rfl|(intros; rfl)) (by first|rfl|decide|exact .inl rfl|exact .inr rfl|(intros; rfl))) pe_non (by exact (nomark _))) (@pss_one _ _ _ (@ps_ret _ _ _ _ pe_bl)) pss_nil) (@pss_one _ _ _ (@ps_if _ _ _ _ _ _ _ _ (@PW.pt _ _ _ (@pw_and _ _ _ _ _ _ _ (@pt_cmpR _ _ _ _ _ _ _ _ op_gt (pv 2) pe_int (by exact (nomark _))) (@pw_and1 _ _ _ _ (@pt_cmpR _ _ _ _ _ _ _ _ op_notN (@cc _ _ _ _ _ _ _ _ _ _ (by exact C_fuller_at) (by exact (hr.mono (by decide))) (@pa_consN _ _ _ _ _ (@cc _ _ _ _ _ _ _ _ _ _ (by exact C_unlike) (by exact (hr.mono (by decide))) (@pa_consN _ _ _ _ _ (pv 0) (@pa_consN _ _ _ _ _ (pv 2) pa_nil (by first|rfl|decide|exact .inl rfl|exact .inr rfl|(intros; rfl))) (by first|rfl|decide|exact .inl rfl|exact .inr rfl|(intros; rfl))) (by first|rfl|decide|exact .inl rfl|exact .inr rfl|(intros; rfl)) (by first|rfl|decide|exact .inl rfl|exact .inr rfl|(intros; rfl)) (by first|rfl|decide|exact .inl rfl|exact .inr rfl|(intros; rfl)) (by first|rfl|decide|exact .inl rfl|exact .inr rfl|(intros; rfl))) (@pa_consN _ _ _ _ _ (@cc _ _ _ _ _ _ _ _ _ _ (by exact C_unlike) (by exact (hr.mono (by decide))) (@pa_consN _ _ _ _ _ (pv 0) (@pa_consN _ _ _ _ _ (@pe_op _ _ _ _ _ _ _ _ op_sub (pv 2) pe_int) pa_nil (by first|rfl|decide|exact .inl rfl|exact .inr rfl|(intros; rfl))) (by first|rfl|decide|exact .inl rfl|exact .inr rfl|(intros; rfl))) (by first|rfl|decide|exact .inl rfl|exact .inr rfl|(intros; rfl)) (by first|rfl|decide|exact .inl rfl|exact .inr rfl|(intros; rfl)) (by first|rfl|decide|exact .inl rfl|exact .inr rfl|(intros; rfl)) (by first|rfl|decide|exact .inl rfl|exact .inr rfl|(intros; rfl))) pa_nil (by first|rfl|decide|exact .inl rfl|exact .inr rfl|(intros; rfl))) (by first|rfl|decide|exact .inl rfl|exact .inr rfl|(intros; rfl))) (by first|rfl|decide|exact .inl rfl|exact .inr rfl|(intros; rfl)) (by first|rfl|decide|exact .inl rfl|exact .inr rfl|(intros; rfl)) (by first|rfl|decide|exact .inl rfl|exact .inr rfl|(intros; rfl)) (by first|rfl|decide|exact .inl rfl|exact .inr rfl|(intros; rfl))) pe_non (by exact (nomark _)))))) (@pss_one _ _ _ (@ps_ret _ _ _ _ pe_bl)) pss_nil))) (by first|rfl|decide|exact .inl rfl|exact .inr rfl|(intros; rfl))) (@pss_one _ _ _ (@ps_ret _ _ _ _ (@pe_or _ _ _ _ _ _ _ (@pe_cmpR _ _ _ _ _ _ _ _ op_eq (pv 0) pe_int (by exact (nomark _))) (@pe_or _ _ _ _ _ _ _ (@pe_cmpR _ _ _ _ _ _ _ _ op_eq (pv 1) pe_int (by exact (nomark _))) (@pe_one _ _ _ _ _ (@pe_cmpR _ _ _ _ _ _ _ _ op_notN (@cc _ _ _ _ _ _ _ _ _ _ (by exact C_fuller_at) (by exact (hr.mono (by decide))) (@pa_consN _ _ _ _ _ (@cc _ _ _ _ _ _ _ _ _ _ (by exact C_drawn) (by exact (hr.mono (by decide))) (@pa_consN _ _ _ _ _ (pv 0) (@pa_consN _ _ _ _ _ pe_int pa_nil (by first|rfl|decide|exact .inl rfl|exact .inr rfl|(intros; rfl))) (by first|rfl|decide|exact .inl rfl|exact .inr rfl|(intros; rfl))) (by first|rfl|decide|exact .inl rfl|exact .inr rfl|(intros; rfl)) (by first|rfl|decide|exact .inl rfl|exact .inr rfl|(intros; rfl)) (by first|rfl|decide|exact .inl rfl|exact .inr rfl|(intros; rfl)) (by first|rfl|decide|exact .inl rfl|exact .inr rfl|(intros; rfl))) (@pa_consN _ _ _ _ _ (@cc _ _ _ _ _ _ _ _ _ _ (by exact C_drawn) (by exact (hr.mono (by decide))) (@pa_consN _ _ _ _ _ (pv 0) (@pa_consN _ _ _ _ _ (pv 1) pa_nil (by first|rfl|decide|exact .inl rfl|exact .inr rfl|(intros; rfl))) (by first|rfl|decide|exact .inl rfl|exact .inr rfl|(intros; rfl))) (by first|rfl|decide|exact .inl rfl|exact .inr rfl|(intros; rfl)) (by first|rfl|decide|exact .inl rfl|exact .inr rfl|(intros; rfl)) (by first|rfl|decide|exact .inl rfl|exact .inr rfl|(intros; rfl)) (by first|rfl|decide|exact .inl rfl|exact .inr rfl|(intros; rfl))) pa_nil (by first|rfl|decide|exact .inl rfl|exact .inr rfl|(intros; rfl))) (by first|rfl|decide|exact .inl rfl|exact .inr rfl|(intros; rfl))) (by first|rfl|decide|exact .inl rfl|exact .inr rfl|(intros; rfl)) (by first|rfl|decide|exact .inl rfl|exact .inr rfl|(intros; rfl)) (by first|rfl|decide|exact .inl rfl|exact .inr rfl|(intros; rfl)) (by first|rfl|decide|exact .inl rfl|exact .inr rfl|(intros; rfl))) pe_non (by exact (nomark _)))))))))), ?_⟩
  refine ⟨_, rfl, _, _, rfl, ⟨by decide, by decide, by omega, by omega⟩, for_range (n := ((m : Int) - 1).toNat) (lo := 1) (fun i σ H' => (∃ o3, σ = [some (.int (n : Int)), some (.int (m : Int)), o3]) ∧ Same H H') ⟨⟨_, rfl⟩, Same.refl _⟩ ?_ ?_⟩
  · rintro i σ H1 hi ⟨⟨o3, rfl⟩, s1⟩
    refine ⟨_, rfl, _, rfl, _, _, rfl, rfl, _, _, rfl, ⟨by omega, by omega, by omega, by omega⟩, fun a ys H2 s2 ha pa => ?_⟩
    obtain ⟨ra, oa, la⟩ := dQ_ru (kn := i + 1 + 1) (by omega) ⟨by omega, by omega, by omega, by omega⟩ ha pa
    refine ⟨_, rfl, _, rfl, _, _, rfl, ⟨by omega, by omega, by omega, by omega⟩, fun b zs H3 s3 hb pb => ?_⟩
    obtain ⟨rb, ob, lb⟩ := dQ_ru (kn := i + 1) (by omega) ⟨by omega, by omega, by omega, by omega⟩ hb pb
    refine ⟨_, _, _, _, 15, rfl, ra.same s3, rb, (by omega), oa, ob, fun H4 s4 => ?_⟩
    rw [fa_none (dd_ok n (by omega) (i + 1) (by omega) (by omega))]
    refine ⟨rfl, _, rfl, iteF ⟨⟨_, rfl⟩, ((s1.trans s2).trans (s3.trans s4))⟩⟩
  rintro σ H1 ⟨⟨o3, rfl⟩, s1⟩
  obtain ⟨mn, emn, mn1, mn2, mn3⟩ : ∃ mn : Nat, (if (n : Int) < (m : Int) then (n : Int) else (m : Int)) = (mn : Int) ∧ mn ≤ n ∧ mn ≤ m ∧ 1 ≤ mn := by
    by_cases c : (n : Int) < (m : Int)
    · exact ⟨n, if_pos c, by omega, by omega, by omega⟩
    · exact ⟨m, if_neg c, by omega, by omega, by omega⟩
  refine ⟨_, rfl, _, rfl, _, _, rfl, ?_⟩
  rw [emn]
  refine ⟨_, _, rfl, rfl, _, _, rfl, ⟨by decide, by decide, by omega, by omega⟩, for_range (n := ((mn : Int) + 1 - 1).toNat) (lo := 1) (fun i σ H' => (∃ o3, σ = [some (.int (n : Int)), some (.int (m : Int)), o3]) ∧ Same H H') ⟨⟨_, rfl⟩, s1⟩ ?_ ?_⟩
  · rintro i σ H2 hi ⟨⟨o3', rfl⟩, s2⟩
    refine ⟨_, rfl, _, rfl, _, _, rfl, ⟨by omega, by omega, by omega, by omega⟩, fun a ys H3 s3 ha pa => ?_⟩
    obtain ⟨ra, oa, la⟩ := uQ_ru (kn := i + 1) (by omega) ⟨by omega, by omega, by omega, by omega⟩ ha pa
    refine ⟨_, rfl, _, rfl, _, _, rfl, ⟨by omega, by omega, by omega, by omega⟩, fun b zs H4 s4 hb pb => ?_⟩
    obtain ⟨rb, ob, lb⟩ := dQ_ru (kn := i + 1) (by omega) ⟨by omega, by omega, by omega, by omega⟩ hb pb
    refine ⟨_, _, _, _, 15, rfl, ra.same s4, rb, (by omega), oa, ob, fun H5 s5 => ?_⟩
    rw [fa_none (ud_ok n (by omega) (i + 1) (by omega) (by omega) (by omega))]
    have s25 : Same H H5 := (s2.trans s3).trans (s4.trans s5)
    refine ⟨rfl, _, rfl, iteF ?_⟩
    refine ⟨_, rfl, _, _, rfl, rfl, _, rfl, ?_⟩
    refine ite2 (fun c => ?_) (fun c => ⟨⟨_, rfl⟩, s25⟩)
    have c' : (1 : Int) < 1 + (i : Int) := of_decide_eq_true c
    refine ⟨_, rfl, _, rfl, _, _, rfl, ⟨by omega, by omega, by omega, by omega⟩, fun a2 ys2 H6 s6 ha2 pa2 => ?_⟩
    obtain ⟨ra2, oa2, la2⟩ := uQ_ru (kn := i + 1) (by omega) ⟨by omega, by omega, by omega, by omega⟩ ha2 pa2
    refine ⟨_, rfl, _, rfl, _, _, rfl, rfl, _, _, rfl, ⟨by omega, by omega, by omega, by omega⟩, fun b2 zs2 H7 s7 hb2 pb2 => ?_⟩
    obtain ⟨rb2, ob2, lb2⟩ := uQ_ru (kn := i + 1 - 1) (by omega) ⟨by omega, by omega, by omega, by omega⟩ hb2 pb2
    refine ⟨_, _, _, _, 15, rfl, ra2.same s7, rb2, (by omega), oa2, ob2, fun H8 s8 => ?_⟩
    rw [fa_none (uu_ok n (by omega) (i + 1) (by omega) (by omega) (by omega))]
    exact ⟨rfl, _, rfl, iteF ⟨⟨_, rfl⟩, s25.trans ((s6.trans s7).trans s8)⟩⟩
  rintro σ H2 ⟨⟨o3', rfl⟩, s2⟩
  refine ⟨_, rfl, rfl, _, rfl, ?_⟩
  refine ite2 (fun c => ?_) (fun c => ?_)
  · exact k _ s2
  have nn1 : (n : Int) ≠ 1 := tstN c
  refine ⟨_, rfl, rfl, _, rfl, ?_⟩
  refine ite2 (fun c2 => k _ s2) (fun c2 => ?_)
  have mm1 : (m : Int) ≠ 1 := tstN c2
  refine ⟨_, rfl, _, _, rfl, ⟨by omega, by omega, by omega, by omega⟩, fun a ys H3 s3 ha pa => ?_⟩
  obtain ⟨ra, oa, la⟩ := dQ_ru (kn := 1) (by omega) ⟨by omega, by omega, by omega, by omega⟩ ha pa
  refine ⟨_, rfl, _, rfl, _, _, rfl, ⟨by omega, by omega, by omega, by omega⟩, fun b zs H4 s4 hb pb => ?_⟩
  obtain ⟨rb, ob, lb⟩ := dQ_ru (kn := m) (by omega) ⟨by omega, by omega, by omega, by omega⟩ hb pb
  refine ⟨_, _, _, _, 15, rfl, ra.same s4, rb, (by omega), oa, ob, fun H5 s5 => ?_⟩
  rw [fa_at (k := 0) (by omega) (d1_ok n (by omega) m (by omega) (by omega) (by omega)) (fun j hj => by omega)]
  exact ⟨rfl, k _ ((s2.trans s3).trans (s4.trans s5))⟩
noncomputable def spMixedR (K : PySem.W.Frag) : Sp := fun vs H Q _ => ∃ (p : Addr) (m n : Nat) (v u : V) (qs rs : List Rat), vs = [.ref p, v, u] ∧ PenZ K H p m ∧ m + 2 ≤ 100000 ∧ RuAt H v qs ∧ RuAt H u rs ∧ FineN 10 n qs ∧ FineN 10 n rs ∧ 1 ≤ n ∧ n ≤ 6 ∧ Le qs rs ∧ ∀ H', PenZ K H' p (m + 2) → SameY p H H' → Q (.bl true) H'
theorem div7_le {a b : Int} (h : a ≤ b) : Rat.divInt a 7 ≤ Rat.divInt b 7 := div_le (by decide) h
theorem div7_one {b : Int} (h : b ≤ 7) : 0 ≤ 1 - Rat.divInt b 7 := by
  have e := div_add' b (7 - b) (S := 7) (by decide)
  rw [show b + (7 - b) = 7 by omega] at e
  have e1 : Rat.divInt 7 7 = 1 := by decide
  have := div_nn (a := 7 - b) (S := 7) (by decide) (by omega)
  grind
theorem ok_mixedR (T : Txt2 mg) (C_l_take : Cal P w K mg base "_law_take" ["_law_pen_here", "_law_many"] 1 (spTakeZ K)) (C_l_share : Cal P w K mg base "_law_share" ["_law_top", "_law_bottom"] 1 spShareL) (C_mixed : Cal P w K mg base "mixed" ["share", "one", "other"] 4 spMixed) (C_fuller_at : Cal P w K mg base "fuller_at" ["one", "other"] 4 spFullAt)
    (F : FunAt K mg "_law_mixed_right" ["_law_pen_here", "_law_one", "_law_other"] s_l_mixed_right) : Cal P w K mg base "_law_mixed_right" ["_law_pen_here", "_law_one", "_law_other"] 5 (spMixedR K) := by
  have S := sc_l_mixed_right
  refine F.cal sc_l_mixed_right (fun vs H Q E h => ?_) (fun f cdv A outer s H vs Q E hr h => ?_)
  · obtain ⟨p, m, n, v, u, qs, rs, rfl, _⟩ := h; rfl
  obtain ⟨p, m, n, v, u, qs, rs, rfl, hp, hm, rv, ru, fq, fr, n1, n6, le, k⟩ := h
  refine ⟨_, (@pss_cons _ _ _ _ _ (@ps_set _ _ (3) _ _ _ _ (by exact S.nd) (by rfl) (by first | exact Or.inl rfl | exact Or.inr rfl) (@cc _ _ _ _ _ _ _ _ _ _ (by exact C_l_take) (by exact (hr.mono (by decide))) (@pa_consN _ _ _ _ _ (pv 0) (@pa_consN _ _ _ _ _ pe_int pa_nil (by first|rfl|decide|exact .inl rfl|exact .inr rfl|(intros; rfl))) (by first|rfl|decide|exact .inl rfl|exact .inr rfl|(intros; rfl))) (by first|rfl|decide|exact .inl rfl|exact .inr rfl|(intros; rfl)) (by first|rfl|decide|exact .inl rfl|exact .inr rfl|(intros; rfl)) (by first|rfl|decide|exact .inl rfl|exact .inr rfl|(intros; rfl)) (by first|rfl|decide|exact .inl rfl|exact .inr rfl|(intros; rfl))) (by first|rfl|decide|exact .inl rfl|exact .inr rfl|(intros; rfl)) (by first|rfl|decide|exact .inl rfl|exact .inr rfl|(intros; rfl))) (@pss_cons _ _ _ _ _ (@ps_set _ _ (4) _ _ _ _ (by exact S.nd) (by rfl) (by first | exact Or.inl rfl | exact Or.inr rfl) (@pe_op _ _ _ _ _ _ _ _ op_add (pv 3) (@cc _ _ _ _ _ _ _ _ _ _ (by exact C_l_take) (by exact (hr.mono (by decide))) (@pa_consN _ _ _ _ _ (pv 0) (@pa_consN _ _ _ _ _ (@pe_op _ _ _ _ _ _ _ _ op_sub pe_int (pv 3)) pa_nil (by first|rfl|decide|exact .inl rfl|exact .inr rfl|(intros; rfl))) (by first|rfl|decide|exact .inl rfl|exact .inr rfl|(intros; rfl))) (by first|rfl|decide|exact .inl rfl|exact .inr rfl|(intros; rfl)) (by first|rfl|decide|exact .inl rfl|exact .inr rfl|(intros; rfl)) (by first|rfl|decide|exact .inl rfl|exact .inr rfl|(intros; rfl)) (by first|rfl|decide|exact .inl rfl|exact .inr rfl|(intros; rfl)))) (by first|rfl|decide|exact .inl rfl|exact .inr rfl|(intros; rfl)) (by first|rfl|decide|exact .inl rfl|exact .inr rfl|(intros; rfl))) (@pss_cons _ _ _ _ _ (@ps_set _ _ (5) _ _ _ _ (by exact S.nd) (by rfl) (by first | exact Or.inl rfl | exact Or.inr rfl) (@cc _ _ _ _ _ _ _ _ _ _ (by exact C_mixed) (by exact (hr.mono (by decide))) (@pa_consN _ _ _ _ _ (@cc _ _ _ _ _ _ _ _ _ _ (by exact C_l_share) (by exact (hr.mono (by decide))) (@pa_consN _ _ _ _ _ (pv 3) (@pa_consN _ _ _ _ _ pe_int pa_nil (by first|rfl|decide|exact .inl rfl|exact .inr rfl|(intros; rfl))) (by first|rfl|decide|exact .inl rfl|exact .inr rfl|(intros; rfl))) (by first|rfl|decide|exact .inl rfl|exact .inr rfl|(intros; rfl)) (by first|rfl|decide|exact .inl rfl|exact .inr rfl|(intros; rfl)) (by first|rfl|decide|exact .inl rfl|exact .inr rfl|(intros; rfl)) (by first|rfl|decide|exact .inl rfl|exact .inr rfl|(intros; rfl))) (@pa_consN _ _ _ _ _ (pv 1) (@pa_consN _ _ _ _ _ (pv 2) pa_nil (by first|rfl|decide|exact .inl rfl|exact .inr rfl|(intros; rfl))) (by first|rfl|decide|exact .inl rfl|exact .inr rfl|(intros; rfl))) (by first|rfl|decide|exact .inl rfl|exact .inr rfl|(intros; rfl))) (by first|rfl|decide|exact .inl rfl|exact .inr rfl|(intros; rfl)) (by first|rfl|decide|exact .inl rfl|exact .inr rfl|(intros; rfl)) (by first|rfl|decide|exact .inl rfl|exact .inr rfl|(intros; rfl)) (by first|rfl|decide|exact .inl rfl|exact .inr rfl|(intros; rfl))) (by first|rfl|decide|exact .inl rfl|exact .inr rfl|(intros; rfl)) (by first|rfl|decide|exact .inl rfl|exact .inr rfl|(intros; rfl))) (@pss_cons _ _ _ _ _ (@ps_set _ _ (6) _ _ _ _ (by exact S.nd) (by rfl) (by first | exact Or.inl rfl | exact Or.inr rfl) (@cc _ _ _ _ _ _ _ _ _ _ (by exact C_mixed) (by exact (hr.mono (by decide))) (@pa_consN _ _ _ _ _ (@cc _ _ _ _ _ _ _ _ _ _ (by exact C_l_share) (by exact (hr.mono (by decide))) (@pa_consN _ _ _ _ _ (pv 4) (@pa_consN _ _ _ _ _ pe_int pa_nil (by first|rfl|decide|exact .inl rfl|exact .inr rfl|(intros; rfl))) (by first|rfl|decide|exact .inl rfl|exact .inr rfl|(intros; rfl))) (by first|rfl|decide|exact .inl rfl|exact .inr rfl|(intros; rfl)) (by first|rfl|decide|exact .inl rfl|exact .inr rfl|(intros; rfl)) (by first|rfl|decide|exact .inl rfl|exact .inr rfl|(intros; rfl)) (by first|rfl|decide|exact .inl rfl|exact .inr rfl|(intros; rfl))) (@pa_consN _ _ _ _ _ (pv 1) (@pa_consN _ _ _ _ _ (pv 2) pa_nil (by first|rfl|decide|exact .inl rfl|exact .inr rfl|(intros; rfl))) (by first|rfl|decide|exact .inl rfl|exact .inr rfl|(intros; rfl))) (by first|rfl|decide|exact .inl rfl|exact .inr rfl|(intros; rfl))) (by first|rfl|decide|exact .inl rfl|exact .inr rfl|(intros; rfl)) (by first|rfl|decide|exact .inl rfl|exact .inr rfl|(intros; rfl)) (by first|rfl|decide|exact .inl rfl|exact .inr rfl|(intros; rfl)) (by first|rfl|decide|exact .inl rfl|exact .inr rfl|(intros; rfl))) (by first|rfl|decide|exact .inl rfl|exact .inr rfl|(intros; rfl)) (by first|rfl|decide|exact .inl rfl|exact .inr rfl|(intros; rfl))) (@pss_cons _ _ _ _ _ (@ps_for _ _ _ _ _ _ _ _ (by exact PassesOwn.never) (by rfl) (@pi_list _ _ _ _ (@pe_lst _ _ _ _ (@pa_consN _ _ _ _ _ (@pe_tup _ _ _ _ _ (@pa_consN _ _ _ _ _ (pv 1) (@pa_consN _ _ _ _ _ (pv 6) pa_nil (by first|rfl|decide|exact .inl rfl|exact .inr rfl|(intros; rfl))) (by first|rfl|decide|exact .inl rfl|exact .inr rfl|(intros; rfl)))) (@pa_consN _ _ _ _ _ (@pe_tup _ _ _ _ _ (@pa_consN _ _ _ _ _ (pv 6) (@pa_consN _ _ _ _ _ (pv 5) pa_nil (by first|rfl|decide|exact .inl rfl|exact .inr rfl|(intros; rfl))) (by first|rfl|decide|exact .inl rfl|exact .inr rfl|(intros; rfl)))) (@pa_consN _ _ _ _ _ (@pe_tup _ _ _ _ _ (@pa_consN _ _ _ _ _ (pv 5) (@pa_consN _ _ _ _ _ (pv 2) pa_nil (by first|rfl|decide|exact .inl rfl|exact .inr rfl|(intros; rfl))) (by first|rfl|decide|exact .inl rfl|exact .inr rfl|(intros; rfl)))) (@pa_consN _ _ _ _ _ (@pe_tup _ _ _ _ _ (@pa_consN _ _ _ _ _ (pv 1) (@pa_consN _ _ _ _ _ (pv 2) pa_nil (by first|rfl|decide|exact .inl rfl|exact .inr rfl|(intros; rfl))) (by first|rfl|decide|exact .inl rfl|exact .inr rfl|(intros; rfl)))) pa_nil (by first|rfl|decide|exact .inl rfl|exact .inr rfl|(intros; rfl))) (by first|rfl|decide|exact .inl rfl|exact .inr rfl|(intros; rfl))) (by first|rfl|decide|exact .inl rfl|exact .inr rfl|(intros; rfl))) (by first|rfl|decide|exact .inl rfl|exact .inr rfl|(intros; rfl))))) (@pg_name _ _ (7) _ (by exact S.nd) (by rfl) (by first | exact Or.inl rfl | exact Or.inr rfl) (by first|rfl|decide|exact .inl rfl|exact .inr rfl|(intros; rfl))) (@pss_one _ _ _ (@ps_if _ _ _ _ _ _ _ _ (@pt_cmpR _ _ _ _ _ _ _ _ op_notN (@cc _ _ _ _ _ _ _ _ _ _ (by exact C_fuller_at) (by exact (hr.mono (by decide))) (@pa_consN _ _ _ _ _ (@pe_ix _ _ _ _ _ _ _ ix_tup (pv 7) pe_int (by exact (fun _ _ => rfl))) (@pa_consN _ _ _ _ _ (@pe_ix _ _ _ _ _ _ _ ix_tup (pv 7) pe_int (by exact (fun _ _ => rfl))) pa_nil (by first|rfl|decide|exact .inl rfl|exact .inr rfl|(intros; rfl))) (by first|rfl|decide|exact .inl rfl|exact .inr rfl|(intros; rfl))) (by first|rfl|decide|exact .inl rfl|exact .inr rfl|(intros; rfl)) (by first|rfl|decide|exact .inl rfl|exact .inr rfl|(intros; rfl)) (by first|rfl|decide|exact .inl rfl|exact .inr rfl|(intros; rfl)) (by first|rfl|decide|exact .inl rfl|exact .inr rfl|(intros; rfl))) pe_non (by exact (nomark _))) (@pss_one _ _ _ (@ps_ret _ _ _ _ pe_bl)) pss_nil)) (by first|rfl|decide|exact .inl rfl|exact .inr rfl|(intros; rfl))) (@pss_one _ _ _ (@ps_ret _ _ _ _ pe_bl))))))), ?_⟩
  refine ⟨_, rfl, p, _, _, rfl, hp, by omega, by decide, by decide, fun sp H1 sp0 sp1 p1 x1 => ?_⟩
  refine ⟨_, rfl, _, rfl, _, rfl, _, _, rfl, rfl, p, _, _, rfl, p1, by omega, by omega, by omega, fun d H2 d0 d1 p2 x2 => ?_⟩
  have rv2 := rv.keepZ hp (x1.trans x2)
  have ru2 := ru.keepZ hp (x1.trans x2)
  have len : qs.length = rs.length := by rw [fq.1, fr.1]
  have bt7 : Bt 8000 7 := (Bt.of_lt (n := 3) (by decide)).mono (by decide)
  have b1 : ∀ {N : Nat} {xs : List Rat}, FineN N n xs → N ≤ 1000 → ∀ x ∈ xs, SB 1000 x := fun h l x hx => (h.2 x hx).2.mono l
  refine ⟨_, _, rfl, rfl, _, rfl, _, _, rfl, sp0, by decide, bt7, fun q1 H3 s3 hq1 => ?_⟩
  obtain ⟨sb1, nn1, _, to1⟩ : SB 3 (Rat.divInt sp 7) ∧ 0 ≤ Rat.divInt sp 7 ∧ True ∧ (Rat.divInt sp 7).num ≤ ((Rat.divInt sp 7).den : Int) := let h := div7 sp0 (by omega); ⟨h.1, h.2.1, trivial, h.2.2⟩
  refine ⟨_, rfl, _, rfl, _, _, _, _, qs, rs, rfl, hq1, rv2.same s3, ru2.same s3, sb1.mono (by decide), b1 fq (by decide), b1 fr (by decide), (by rw [fq.1]; omega), len, fun v1 H4 s4 r1 => ?_⟩
  refine ⟨_, rfl, _, _, rfl, (by omega), by decide, bt7, fun q2 H5 s5 hq2 => ?_⟩
  obtain ⟨sb2, nn2, _, to2⟩ : SB 3 (Rat.divInt (sp + d) 7) ∧ 0 ≤ Rat.divInt (sp + d) 7 ∧ True ∧ (Rat.divInt (sp + d) 7).num ≤ ((Rat.divInt (sp + d) 7).den : Int) := let h := div7 (r := sp + d) (by omega) (by omega); ⟨h.1, h.2.1, trivial, h.2.2⟩
  have s35 := s3.trans (s4.trans s5)
  refine ⟨_, rfl, _, rfl, _, _, _, _, qs, rs, rfl, hq2, rv2.same s35, ru2.same s35, sb2.mono (by decide), b1 fq (by decide), b1 fr (by decide), (by rw [fq.1]; omega), len, fun v2 H6 s6 r2 => ?_⟩
  have rv6 := rv2.same (s35.trans s6)
  have ru6 := ru2.same (s35.trans s6)
  have r16 := r1.same (s5.trans s6)
  obtain ⟨l1, l2, l3⟩ := le.mixes len nn1 (div7_le (show sp ≤ sp + d by omega)) (div7_one (show sp + d ≤ 7 by omega))
  have f1 := fq.mix fr sb1 nn1 to1
  have f2 := fq.mix fr sb2 nn2 to2
  generalize List.zipWith (mixF (Rat.divInt sp 7)) qs rs = m1 at *
  generalize List.zipWith (mixF (Rat.divInt (sp + d) 7)) qs rs = m2 at *
  have fq' : FineN (10 + 10 + 2 * 3 + 3) n qs := fq.mono (by decide)
  have fr' : FineN (10 + 10 + 2 * 3 + 3) n rs := fr.mono (by decide)
  refine ⟨_, rfl, _, rfl, lz 2 rfl, fun t1 ht1 => ?_⟩
  have s_H7 := same_new ht1 (.tup [v, v2])
  have g_t1 : upd H6 t1 (.tup [v, v2]) t1 = some (.tup [v, v2]) := upd_same
  generalize upd H6 t1 (.tup [v, v2]) = H7 at s_H7 g_t1 ⊢
  refine ⟨_, rfl, _, rfl, lz 2 rfl, fun t2 ht2 => ?_⟩
  have s_H8 := same_new ht2 (.tup [v2, v1])
  have g_t2 : upd H7 t2 (.tup [v2, v1]) t2 = some (.tup [v2, v1]) := upd_same
  generalize upd H7 t2 (.tup [v2, v1]) = H8 at s_H8 g_t2 ⊢
  refine ⟨_, rfl, _, rfl, lz 2 rfl, fun t3 ht3 => ?_⟩
  have s_H9 := same_new ht3 (.tup [v1, u])
  have g_t3 : upd H8 t3 (.tup [v1, u]) t3 = some (.tup [v1, u]) := upd_same
  generalize upd H8 t3 (.tup [v1, u]) = H9 at s_H9 g_t3 ⊢
  refine ⟨_, rfl, _, rfl, lz 2 rfl, fun t4 ht4 => ?_⟩
  have s_H10 := same_new ht4 (.tup [v, u])
  have g_t4 : upd H9 t4 (.tup [v, u]) t4 = some (.tup [v, u]) := upd_same
  generalize upd H9 t4 (.tup [v, u]) = H10 at s_H10 g_t4 ⊢
  refine ⟨lz 4 rfl, fun l hl => ?_⟩
  have s_H11 := same_new hl (.lst [.ref t1, .ref t2, .ref t3, .ref t4])
  have g_l : upd H10 l (.lst [.ref t1, .ref t2, .ref t3, .ref t4]) l = some (.lst [.ref t1, .ref t2, .ref t3, .ref t4]) := upd_same
  generalize upd H10 l (.lst [.ref t1, .ref t2, .ref t3, .ref t4]) = H11 at s_H11 g_l ⊢
  have s_6 : Same H6 H11 := s_H7.trans (s_H8.trans (s_H9.trans (s_H10.trans s_H11)))
  have g_t1 := (s_H8.trans (s_H9.trans (s_H10.trans s_H11))) _ _ g_t1
  have g_t2 := (s_H9.trans (s_H10.trans s_H11)) _ _ g_t2
  have g_t3 := (s_H10.trans s_H11) _ _ g_t3
  have g_t4 := (s_H11) _ _ g_t4
  have pairs : ∀ x ∈ [V.ref t1, .ref t2, .ref t3, .ref t4], ∃ t a b qa qb, x = .ref t ∧ H11 t = some (.tup [a, b]) ∧ RuAt H11 a qa ∧ RuAt H11 b qb ∧ Le qa qb ∧ FineN (10 + 10 + 2 * 3 + 3) n qa ∧ FineN (10 + 10 + 2 * 3 + 3) n qb := by
    intro x hx
    simp only [List.mem_cons, List.not_mem_nil, or_false] at hx
    rcases hx with rfl | rfl | rfl | rfl
    · exact ⟨_, _, _, _, _, rfl, g_t1, rv6.same s_6, r2.same s_6, l1, fq', f2⟩
    · exact ⟨_, _, _, _, _, rfl, g_t2, r2.same s_6, r16.same s_6, l2, f2, f1⟩
    · exact ⟨_, _, _, _, _, rfl, g_t3, r16.same s_6, ru6.same s_6, l3, f1, fr'⟩
    · exact ⟨_, _, _, _, _, rfl, g_t4, rv6.same s_6, ru6.same s_6, le, fq', fr'⟩
  refine ⟨l, rfl, ⟨_, SqL.of g_l⟩, for_list (xs := [V.ref t1, .ref t2, .ref t3, .ref t4]) (fun i σ H' => Same H11 H' ∧ ∃ o7, σ = [some (.ref p), some v, some u, some (.int sp), some (.int (sp + d)), some v1, some v2, o7]) ⟨Same.refl _, _, rfl⟩ (fun i σ H' _ h => SqL.of (h.1 _ _ g_l)) ?_ ?_⟩
  · rintro i x σ H' hx ⟨s', o7, rfl⟩
    obtain ⟨t, a, b, qa, qb, rfl, ht, ra, rb, lab, fa, fb⟩ := pairs x (List.mem_of_getElem? hx)
    have ht' := s' _ _ ht
    refine ⟨_, rfl, t, _, _, _, rfl, rfl, SqT.of ht', rfl, _, rfl, t, _, _, _, rfl, rfl, SqT.of ht', rfl, ?_⟩
    refine ⟨_, _, qa, qb, 10 + 10 + 2 * 3 + 3, rfl, ra.same s', rb.same s', (by rw [fa.1, fb.1]), fa.okr (by omega) (by omega) (by decide) (by omega), fb.okr (by omega) (by omega) (by decide) (by omega), fun H12 s12 => ?_⟩
    rw [lab.none]
    exact ⟨rfl, _, rfl, iteF ⟨s'.trans s12, _, rfl⟩⟩
  · rintro σ H' ⟨s', o7, rfl⟩
    have sz := s35.trans (s6.trans (s_6.trans s'))
    exact k _ (p2.same sz) ((x1.trans x2).trans (Same.y sz))
end
end My
set_option Elab.async false
set_option linter.all false
set_option maxRecDepth 100000
set_option maxHeartbeats 4000000
namespace My
open PySem L2 MA Srt
theorem fa_some {qs rs : List Rat} {k : Nat} (h : faF qs rs = some k) : 1 ≤ k ∧ k ≤ qs.length ∧ psum (rs.take k) < psum (qs.take k) := by
  unfold faF at h
  obtain ⟨j, hj, rfl⟩ := Option.map_eq_some_iff.mp h
  have h1 := List.mem_of_find?_eq_some hj
  have h2 := List.find?_some hj
  have h3 := List.mem_range.mp h1
  exact ⟨by omega, by omega, of_decide_eq_true h2⟩
theorem rw_okr {n : Nat} {w : List Int} (W : Wts n w) (n6 : n ≤ 6) : Okr 10 (rwF w) := (rw_fineN W).okr (by omega) (by omega) (by decide) (by omega)
theorem ev_ld {n : Nat} (h1 : 1 ≤ n) (h3 : n ≤ 3) : Ld n (evF n) := by
  refine ⟨by simp [evF], h1, by omega, fun x hx => ?_⟩
  obtain ⟨i, hi, rfl⟩ := List.mem_map.mp hx
  have := List.mem_range.mp hi
  omega
theorem mW_lt {a b l : List Int} (ha : 0 < a.sum) (hb : 0 < b.sum) {k j : Nat} (h : psum ((rwF b).take j) < psum ((rwF a).take j)) : mW b l k j < mW a l k j := by
  rw [mW_eq ha, mW_eq hb]
  grind
theorem mW_le {a b l : List Int} (ha : 0 < a.sum) (hb : 0 < b.sum) {k j : Nat} (h : psum ((rwF b).take j) ≤ psum ((rwF a).take j)) : ¬ mW a l k j < mW b l k j := by
  rw [mW_eq ha, mW_eq hb]
  grind
section
variable {P : Program} {w : World} {K : PySem.W.Frag} {mg : Str → Option Value} {base : Heap}
noncomputable def spPartsR : Sp := fun vs H Q _ => ∃ (v u : V) (n : Nat) (a b : List Int), vs = [v, u] ∧ RuAt H v (rwF a) ∧ RuAt H u (rwF b) ∧ Wts n a ∧ Wts n b ∧ 1 ≤ n ∧ n ≤ 3 ∧ ∀ H', Same H H' → Q (.bl true) H'
theorem ok_partsR (C_parting : Cal P w K mg base "parting" ["one", "other"] 5 spParting) (C_fuller_at : Cal P w K mg base "fuller_at" ["one", "other"] 4 spFullAt) (C_put : Cal P w K mg base "put" ["rule", "spread"] 5 spPut) (C_alone : Cal P w K mg base "alone" ["load"] 1 spAlone)
    (C_first_mean : Cal P w K mg base "first_mean" ["spread", "k"] 4 spFirst) (C_l_is_more : Cal P w K mg base "_law_is_more" ["_law_a", "_law_b"] 1 spMore) (F : FunAt K mg "_law_parts_right" ["_law_one", "_law_other"] s_l_parts_right) : Cal P w K mg base "_law_parts_right" ["_law_one", "_law_other"] 6 spPartsR := by
  have S := sc_l_parts_right
  refine F.cal sc_l_parts_right (fun vs H Q E h => ?_) (fun f cdv A outer s H vs Q E hr h => ?_)
  · obtain ⟨v, u, n, a, b, rfl, _⟩ := h; rfl
  obtain ⟨v, u, n, a, b, rfl, rv, ru, Wa, Wb, n1, n3, k⟩ := h
  refine ⟨_, (@pss_cons _ _ _ _ _ (@ps_set _ _ (2) _ _ _ _ (by exact S.nd) (by rfl) (by first | exact Or.inl rfl | exact Or.inr rfl) (@cc _ _ _ _ _ _ _ _ _ _ (by exact C_parting) (by exact (hr.mono (by decide))) (@pa_consN _ _ _ _ _ (pv 0) (@pa_consN _ _ _ _ _ (pv 1) pa_nil (by first|rfl|decide|exact .inl rfl|exact .inr rfl|(intros; rfl))) (by first|rfl|decide|exact .inl rfl|exact .inr rfl|(intros; rfl))) (by first|rfl|decide|exact .inl rfl|exact .inr rfl|(intros; rfl)) (by first|rfl|decide|exact .inl rfl|exact .inr rfl|(intros; rfl)) (by first|rfl|decide|exact .inl rfl|exact .inr rfl|(intros; rfl)) (by first|rfl|decide|exact .inl rfl|exact .inr rfl|(intros; rfl))) (by first|rfl|decide|exact .inl rfl|exact .inr rfl|(intros; rfl)) (by first|rfl|decide|exact .inl rfl|exact .inr rfl|(intros; rfl))) (@pss_cons _ _ _ _ _ (@ps_if _ _ _ _ _ _ _ _ (@pt_cmpR _ _ _ _ _ _ _ _ op_isN (pv 2) pe_non (by exact (nomark _))) (@pss_one _ _ _ (@ps_ret _ _ _ _ (@pe_cmpR _ _ _ _ _ _ _ _ op_isN (@cc _ _ _ _ _ _ _ _ _ _ (by exact C_fuller_at) (by exact (hr.mono (by decide))) (@pa_consN _ _ _ _ _ (pv 0) (@pa_consN _ _ _ _ _ (pv 1) pa_nil (by first|rfl|decide|exact .inl rfl|exact .inr rfl|(intros; rfl))) (by first|rfl|decide|exact .inl rfl|exact .inr rfl|(intros; rfl))) (by first|rfl|decide|exact .inl rfl|exact .inr rfl|(intros; rfl)) (by first|rfl|decide|exact .inl rfl|exact .inr rfl|(intros; rfl)) (by first|rfl|decide|exact .inl rfl|exact .inr rfl|(intros; rfl)) (by first|rfl|decide|exact .inl rfl|exact .inr rfl|(intros; rfl))) pe_non (by exact (nomark _))))) pss_nil) (@pss_cons _ _ _ _ _ (@ps_set _ _ (3) _ _ _ _ (by exact S.nd) (by rfl) (by first | exact Or.inl rfl | exact Or.inr rfl) (@cc _ _ _ _ _ _ _ _ _ _ (by exact C_first_mean) (by exact (hr.mono (by decide))) (@pa_consN _ _ _ _ _ (@cc _ _ _ _ _ _ _ _ _ _ (by exact C_put) (by exact (hr.mono (by decide))) (@pa_consN _ _ _ _ _ (pv 0) (@pa_consN _ _ _ _ _ (@cc _ _ _ _ _ _ _ _ _ _ (by exact C_alone) (by exact (hr.mono (by decide))) (@pa_consN _ _ _ _ _ (@pe_ix _ _ _ _ _ _ _ ix_tup (pv 2) pe_int (by exact (fun _ _ => rfl))) pa_nil (by first|rfl|decide|exact .inl rfl|exact .inr rfl|(intros; rfl))) (by first|rfl|decide|exact .inl rfl|exact .inr rfl|(intros; rfl)) (by first|rfl|decide|exact .inl rfl|exact .inr rfl|(intros; rfl)) (by first|rfl|decide|exact .inl rfl|exact .inr rfl|(intros; rfl)) (by first|rfl|decide|exact .inl rfl|exact .inr rfl|(intros; rfl))) pa_nil (by first|rfl|decide|exact .inl rfl|exact .inr rfl|(intros; rfl))) (by first|rfl|decide|exact .inl rfl|exact .inr rfl|(intros; rfl))) (by first|rfl|decide|exact .inl rfl|exact .inr rfl|(intros; rfl)) (by first|rfl|decide|exact .inl rfl|exact .inr rfl|(intros; rfl)) (by first|rfl|decide|exact .inl rfl|exact .inr rfl|(intros; rfl)) (by first|rfl|decide|exact .inl rfl|exact .inr rfl|(intros; rfl))) (@pa_consN _ _ _ _ _ (@pe_ix _ _ _ _ _ _ _ ix_tup (pv 2) pe_int (by exact (fun _ _ => rfl))) pa_nil (by first|rfl|decide|exact .inl rfl|exact .inr rfl|(intros; rfl))) (by first|rfl|decide|exact .inl rfl|exact .inr rfl|(intros; rfl))) (by first|rfl|decide|exact .inl rfl|exact .inr rfl|(intros; rfl)) (by first|rfl|decide|exact .inl rfl|exact .inr rfl|(intros; rfl)) (by first|rfl|decide|exact .inl rfl|exact .inr rfl|(intros; rfl)) (by first|rfl|decide|exact .inl rfl|exact .inr rfl|(intros; rfl))) (by first|rfl|decide|exact .inl rfl|exact .inr rfl|(intros; rfl)) (by first|rfl|decide|exact .inl rfl|exact .inr rfl|(intros; rfl))) (@pss_cons _ _ _ _ _ (@ps_set _ _ (4) _ _ _ _ (by exact S.nd) (by rfl) (by first | exact Or.inl rfl | exact Or.inr rfl) (@cc _ _ _ _ _ _ _ _ _ _ (by exact C_first_mean) (by exact (hr.mono (by decide))) (@pa_consN _ _ _ _ _ (@cc _ _ _ _ _ _ _ _ _ _ (by exact C_put) (by exact (hr.mono (by decide))) (@pa_consN _ _ _ _ _ (pv 1) (@pa_consN _ _ _ _ _ (@cc _ _ _ _ _ _ _ _ _ _ (by exact C_alone) (by exact (hr.mono (by decide))) (@pa_consN _ _ _ _ _ (@pe_ix _ _ _ _ _ _ _ ix_tup (pv 2) pe_int (by exact (fun _ _ => rfl))) pa_nil (by first|rfl|decide|exact .inl rfl|exact .inr rfl|(intros; rfl))) (by first|rfl|decide|exact .inl rfl|exact .inr rfl|(intros; rfl)) (by first|rfl|decide|exact .inl rfl|exact .inr rfl|(intros; rfl)) (by first|rfl|decide|exact .inl rfl|exact .inr rfl|(intros; rfl)) (by first|rfl|decide|exact .inl rfl|exact .inr rfl|(intros; rfl))) pa_nil (by first|rfl|decide|exact .inl rfl|exact .inr rfl|(intros; rfl))) (by first|rfl|decide|exact .inl rfl|exact .inr rfl|(intros; rfl))) (by first|rfl|decide|exact .inl rfl|exact .inr rfl|(intros; rfl)) (by first|rfl|decide|exact .inl rfl|exact .inr rfl|(intros; rfl)) (by first|rfl|decide|exact .inl rfl|exact .inr rfl|(intros; rfl)) (by first|rfl|decide|exact .inl rfl|exact .inr rfl|(intros; rfl))) (@pa_consN _ _ _ _ _ (@pe_ix _ _ _ _ _ _ _ ix_tup (pv 2) pe_int (by exact (fun _ _ => rfl))) pa_nil (by first|rfl|decide|exact .inl rfl|exact .inr rfl|(intros; rfl))) (by first|rfl|decide|exact .inl rfl|exact .inr rfl|(intros; rfl))) (by first|rfl|decide|exact .inl rfl|exact .inr rfl|(intros; rfl)) (by first|rfl|decide|exact .inl rfl|exact .inr rfl|(intros; rfl)) (by first|rfl|decide|exact .inl rfl|exact .inr rfl|(intros; rfl)) (by first|rfl|decide|exact .inl rfl|exact .inr rfl|(intros; rfl))) (by first|rfl|decide|exact .inl rfl|exact .inr rfl|(intros; rfl)) (by first|rfl|decide|exact .inl rfl|exact .inr rfl|(intros; rfl))) (@pss_one _ _ _ (@ps_ret _ _ _ _ (@cc _ _ _ _ _ _ _ _ _ _ (by exact C_l_is_more) (by exact (hr.mono (by decide))) (@pa_consN _ _ _ _ _ (pv 3) (@pa_consN _ _ _ _ _ (pv 4) pa_nil (by first|rfl|decide|exact .inl rfl|exact .inr rfl|(intros; rfl))) (by first|rfl|decide|exact .inl rfl|exact .inr rfl|(intros; rfl))) (by first|rfl|decide|exact .inl rfl|exact .inr rfl|(intros; rfl)) (by first|rfl|decide|exact .inl rfl|exact .inr rfl|(intros; rfl)) (by first|rfl|decide|exact .inl rfl|exact .inr rfl|(intros; rfl)) (by first|rfl|decide|exact .inl rfl|exact .inr rfl|(intros; rfl))))))))), ?_⟩
  have la : (rwF a).length = n := by simp [rwF, Wa.len]
  have lb : (rwF b).length = n := by simp [rwF, Wb.len]
  refine ⟨_, rfl, _, rfl, _, _, _, _, 10, rfl, rv, ru, (by omega), rw_okr Wa (by omega), rw_okr Wb (by omega), fun told H1 s1 pt => ?_⟩
  rw [la] at pt
  cases ef : faF (rwF a) (rwF b) with
  | none =>
    rw [ef] at pt
    obtain rfl : told = .non := pt
    refine ⟨_, rfl, rfl, _, rfl, iteT ?_⟩
    refine ⟨_, rfl, _, rfl, _, _, _, _, 10, rfl, rv.same s1, ru.same s1, (by omega), rw_okr Wa (by omega), rw_okr Wb (by omega), fun H2 s2 => ?_⟩
    rw [ef]
    exact ⟨rfl, k _ (s1.trans s2)⟩
  | some c =>
    rw [ef] at pt
    obtain ⟨c1, c2, c3⟩ := fa_some ef
    obtain ⟨tp, tl, rfl, htp, htl⟩ := pt
    have Lv := ev_ld n1 n3
    have pre := pre_ev (n := n) (k := c) n3 (by omega)
    refine ⟨_, rfl, rfl, _, rfl, iteF ?_⟩
    obtain ⟨a1, xs, rfl, ha1, hxs⟩ := rv.same s1
    refine ⟨_, rfl, _, rfl, tp, _, _, _, rfl, rfl, SqT.of htp, rfl, tl, evF n, rfl, htl, fun l2 H2 s2 _ sp2 => ?_⟩
    refine ⟨a1, l2, xs, rwF a, _, rfl, s2 _ _ ha1, hxs.same s2, sp2, fit_one Wa Lv, fun l3 H3 s3 _ sp3 => ?_⟩
    have htp3 := (s2.trans s3) _ _ htp
    have htl3 := (s2.trans s3) _ _ htl
    refine ⟨_, rfl, tp, _, _, _, rfl, rfl, SqT.of htp3, rfl, c, l3, _, rfl, sp3, (mn_one Wa Lv).1, (mn_one Wa Lv).2, fun h1 H4 s4 ph => ?_⟩
    rw [mean_one Wa Lv pre] at ph
    obtain ⟨b1, ys, rfl, hb1, hys⟩ := ru.same (s1.trans (s2.trans (s3.trans s4)))
    refine ⟨_, rfl, _, rfl, tp, _, _, _, rfl, rfl, SqT.of (s4 _ _ htp3), rfl, tl, evF n, rfl, s4 _ _ htl3, fun l5 H5 s5 _ sp5 => ?_⟩
    refine ⟨b1, l5, ys, rwF b, _, rfl, s5 _ _ hb1, hys.same s5, sp5, fit_one Wb Lv, fun l6 H6 s6 _ sp6 => ?_⟩
    have s46 := s4.trans (s5.trans s6)
    refine ⟨_, rfl, tp, _, _, _, rfl, rfl, SqT.of (s46 _ _ htp3), rfl, c, l6, _, rfl, sp6, (mn_one Wb Lv).1, (mn_one Wb Lv).2, fun h2 H7 s7 ph2 => ?_⟩
    rw [mean_one Wb Lv pre] at ph2
    refine ⟨_, rfl, _, rfl, _, _, mW a (evF n) c c, mW b (evF n) c c, rfl, ph.same (s5.trans (s6.trans s7)), ph2, mW_sb Wa Lv c c, mW_sb Wb Lv c c, ?_⟩
    rw [decide_eq_true (mW_lt Wa.pos Wb.pos c3)]
    exact k _ (s1.trans (s2.trans (s3.trans (s46.trans s7))))
noncomputable def spMeansR (K : PySem.W.Frag) : Sp := fun vs H Q _ => ∃ (p : Addr) (m n : Nat) (v u : V) (us ws : List Int), vs = [.ref p, v, u] ∧ PenZ K H p m ∧ m + 6 ≤ 100000 ∧ RuAt H v (rwF us) ∧ RuAt H u (rwF ws) ∧ Wts n us ∧ Wts n ws ∧ Beh us ws ∧ 1 ≤ n ∧ n ≤ 6 ∧ ∀ H', PenZ K H' p (m + 6) → SameY p H H' → Q (.bl true) H'
theorem ok_meansR (T : Txt2 mg) (C_l_load : Cal P w K mg base "_law_load" ["_law_pen_here", "_law_boxes"] 2 (spLoadZ K)) (C_put : Cal P w K mg base "put" ["rule", "spread"] 5 spPut) (C_alone : Cal P w K mg base "alone" ["load"] 1 spAlone)
    (C_first_mean : Cal P w K mg base "first_mean" ["spread", "k"] 4 spFirst) (C_l_is_more : Cal P w K mg base "_law_is_more" ["_law_a", "_law_b"] 1 spMore) (F : FunAt K mg "_law_means_right" ["_law_pen_here", "_law_one", "_law_other"] s_l_means_right) : Cal P w K mg base "_law_means_right" ["_law_pen_here", "_law_one", "_law_other"] 6 (spMeansR K) := by
  have S := sc_l_means_right
  refine F.cal sc_l_means_right (fun vs H Q E h => ?_) (fun f cdv A outer s H vs Q E hr h => ?_)
  · obtain ⟨p, m, n, v, u, us, ws, rfl, _⟩ := h; rfl
  obtain ⟨p, m, n, v, u, us, ws, rfl, hp, hm, rv, ru, Wa, Wb, bh, n1, n6, k⟩ := h
  refine ⟨_, (@pss_cons _ _ _ _ _ (@ps_set _ _ (3) _ _ _ _ (by exact S.nd) (by rfl) (by first | exact Or.inl rfl | exact Or.inr rfl) (@cc _ _ _ _ _ _ _ _ _ _ (by exact C_l_load) (by exact (hr.mono (by decide))) (@pa_consN _ _ _ _ _ (pv 0) (@pa_consN _ _ _ _ _ (@pe_callB _ _ _ _ _ _ _ _ _ call_len_seq (by rfl) (by exact T.z_len) (by exact bt_len) (@pa_consN _ _ _ _ _ (pv 1) pa_nil (by first|rfl|decide|exact .inl rfl|exact .inr rfl|(intros; rfl))) (by first|rfl|decide|exact .inl rfl|exact .inr rfl|(intros; rfl)) (by first|rfl|decide|exact .inl rfl|exact .inr rfl|(intros; rfl)) (by first|rfl|decide|exact .inl rfl|exact .inr rfl|(intros; rfl)) (by first|rfl|decide|exact .inl rfl|exact .inr rfl|(intros; rfl))) pa_nil (by first|rfl|decide|exact .inl rfl|exact .inr rfl|(intros; rfl))) (by first|rfl|decide|exact .inl rfl|exact .inr rfl|(intros; rfl))) (by first|rfl|decide|exact .inl rfl|exact .inr rfl|(intros; rfl)) (by first|rfl|decide|exact .inl rfl|exact .inr rfl|(intros; rfl)) (by first|rfl|decide|exact .inl rfl|exact .inr rfl|(intros; rfl)) (by first|rfl|decide|exact .inl rfl|exact .inr rfl|(intros; rfl))) (by first|rfl|decide|exact .inl rfl|exact .inr rfl|(intros; rfl)) (by first|rfl|decide|exact .inl rfl|exact .inr rfl|(intros; rfl))) (@pss_cons _ _ _ _ _ (@ps_set _ _ (4) _ _ _ _ (by exact S.nd) (by rfl) (by first | exact Or.inl rfl | exact Or.inr rfl) (@cc _ _ _ _ _ _ _ _ _ _ (by exact C_put) (by exact (hr.mono (by decide))) (@pa_consN _ _ _ _ _ (pv 1) (@pa_consN _ _ _ _ _ (@cc _ _ _ _ _ _ _ _ _ _ (by exact C_alone) (by exact (hr.mono (by decide))) (@pa_consN _ _ _ _ _ (pv 3) pa_nil (by first|rfl|decide|exact .inl rfl|exact .inr rfl|(intros; rfl))) (by first|rfl|decide|exact .inl rfl|exact .inr rfl|(intros; rfl)) (by first|rfl|decide|exact .inl rfl|exact .inr rfl|(intros; rfl)) (by first|rfl|decide|exact .inl rfl|exact .inr rfl|(intros; rfl)) (by first|rfl|decide|exact .inl rfl|exact .inr rfl|(intros; rfl))) pa_nil (by first|rfl|decide|exact .inl rfl|exact .inr rfl|(intros; rfl))) (by first|rfl|decide|exact .inl rfl|exact .inr rfl|(intros; rfl))) (by first|rfl|decide|exact .inl rfl|exact .inr rfl|(intros; rfl)) (by first|rfl|decide|exact .inl rfl|exact .inr rfl|(intros; rfl)) (by first|rfl|decide|exact .inl rfl|exact .inr rfl|(intros; rfl)) (by first|rfl|decide|exact .inl rfl|exact .inr rfl|(intros; rfl))) (by first|rfl|decide|exact .inl rfl|exact .inr rfl|(intros; rfl)) (by first|rfl|decide|exact .inl rfl|exact .inr rfl|(intros; rfl))) (@pss_cons _ _ _ _ _ (@ps_set _ _ (5) _ _ _ _ (by exact S.nd) (by rfl) (by first | exact Or.inl rfl | exact Or.inr rfl) (@cc _ _ _ _ _ _ _ _ _ _ (by exact C_put) (by exact (hr.mono (by decide))) (@pa_consN _ _ _ _ _ (pv 2) (@pa_consN _ _ _ _ _ (@cc _ _ _ _ _ _ _ _ _ _ (by exact C_alone) (by exact (hr.mono (by decide))) (@pa_consN _ _ _ _ _ (pv 3) pa_nil (by first|rfl|decide|exact .inl rfl|exact .inr rfl|(intros; rfl))) (by first|rfl|decide|exact .inl rfl|exact .inr rfl|(intros; rfl)) (by first|rfl|decide|exact .inl rfl|exact .inr rfl|(intros; rfl)) (by first|rfl|decide|exact .inl rfl|exact .inr rfl|(intros; rfl)) (by first|rfl|decide|exact .inl rfl|exact .inr rfl|(intros; rfl))) pa_nil (by first|rfl|decide|exact .inl rfl|exact .inr rfl|(intros; rfl))) (by first|rfl|decide|exact .inl rfl|exact .inr rfl|(intros; rfl))) (by first|rfl|decide|exact .inl rfl|exact .inr rfl|(intros; rfl)) (by first|rfl|decide|exact .inl rfl|exact .inr rfl|(intros; rfl)) (by first|rfl|decide|exact .inl rfl|exact .inr rfl|(intros; rfl)) (by first|rfl|decide|exact .inl rfl|exact .inr rfl|(intros; rfl))) (by first|rfl|decide|exact .inl rfl|exact .inr rfl|(intros; rfl)) (by first|rfl|decide|exact .inl rfl|exact .inr rfl|(intros; rfl))) (@pss_cons _ _ _ _ _ (@ps_for _ _ _ _ _ _ _ _ (by exact PassesOwn.never) (by rfl) (@pi_range1 _ _ _ _ _ _ (by rfl) (by exact T.z_range) (@pa_consN _ _ _ _ _ (@pe_op _ _ _ _ _ _ _ _ op_add (@pe_callB _ _ _ _ _ _ _ _ _ call_len_seq (by rfl) (by exact T.z_len) (by exact bt_len) (@pa_consN _ _ _ _ _ (pv 1) pa_nil (by first|rfl|decide|exact .inl rfl|exact .inr rfl|(intros; rfl))) (by first|rfl|decide|exact .inl rfl|exact .inr rfl|(intros; rfl)) (by first|rfl|decide|exact .inl rfl|exact .inr rfl|(intros; rfl)) (by first|rfl|decide|exact .inl rfl|exact .inr rfl|(intros; rfl)) (by first|rfl|decide|exact .inl rfl|exact .inr rfl|(intros; rfl))) pe_int) pa_nil (by first|rfl|decide|exact .inl rfl|exact .inr rfl|(intros; rfl))) (by first|rfl|decide|exact .inl rfl|exact .inr rfl|(intros; rfl))) (@pg_name _ _ (6) _ (by exact S.nd) (by rfl) (by first | exact Or.inl rfl | exact Or.inr rfl) (by first|rfl|decide|exact .inl rfl|exact .inr rfl|(intros; rfl))) (@pss_one _ _ _ (@ps_if _ _ _ _ _ _ _ _ (@pt_val _ _ _ (@cc _ _ _ _ _ _ _ _ _ _ (by exact C_l_is_more) (by exact (hr.mono (by decide))) (@pa_consN _ _ _ _ _ (@cc _ _ _ _ _ _ _ _ _ _ (by exact C_first_mean) (by exact (hr.mono (by decide))) (@pa_consN _ _ _ _ _ (pv 4) (@pa_consN _ _ _ _ _ (pv 6) pa_nil (by first|rfl|decide|exact .inl rfl|exact .inr rfl|(intros; rfl))) (by first|rfl|decide|exact .inl rfl|exact .inr rfl|(intros; rfl))) (by first|rfl|decide|exact .inl rfl|exact .inr rfl|(intros; rfl)) (by first|rfl|decide|exact .inl rfl|exact .inr rfl|(intros; rfl)) (by first|rfl|decide|exact .inl rfl|exact .inr rfl|(intros; rfl)) (by first|rfl|decide|exact .inl rfl|exact .inr rfl|(intros; rfl))) (@pa_consN _ _ _ _ _ (@cc _ _ _ _ _ _ _ _ _ _ (by exact C_first_mean) (by exact (hr.mono (by decide))) (@pa_consN _ _ _ _ _ (pv 5) (@pa_consN _ _ _ _ _ (pv 6) pa_nil (by first|rfl|decide|exact .inl rfl|exact .inr rfl|(intros; rfl))) (by first|rfl|decide|exact .inl rfl|exact .inr rfl|(intros; rfl))) (by first|rfl|decide|exact .inl rfl|exact .inr rfl|(intros; rfl)) (by first|rfl|decide|exact .inl rfl|exact .inr rfl|(intros; rfl)) (by first|rfl|decide|exact .inl rfl|exact .inr rfl|(intros; rfl)) (by first|rfl|decide|exact .inl rfl|exact .inr rfl|(intros; rfl))) pa_nil (by first|rfl|decide|exact .inl rfl|exact .inr rfl|(intros; rfl))) (by first|rfl|decide|exact .inl rfl|exact .inr rfl|(intros; rfl))) (by first|rfl|decide|exact .inl rfl|exact .inr rfl|(intros; rfl)) (by first|rfl|decide|exact .inl rfl|exact .inr rfl|(intros; rfl)) (by first|rfl|decide|exact .inl rfl|exact .inr rfl|(intros; rfl)) (by first|rfl|decide|exact .inl rfl|exact .inr rfl|(intros; rfl))) (by first|rfl|decide|exact .inl rfl|exact .inr rfl|(intros; rfl))) (@pss_one _ _ _ (@ps_ret _ _ _ _ pe_bl)) pss_nil)) (by first|rfl|decide|exact .inl rfl|exact .inr rfl|(intros; rfl))) (@pss_one _ _ _ (@ps_ret _ _ _ _ pe_bl)))))), ?_⟩
  have la : (rwF us).length = n := by simp [rwF, Wa.len]
  obtain ⟨a0, xs, rfl, ha0, hxs⟩ := id rv
  have lx : xs.length = n := by rw [hxs.length, la]
  refine ⟨_, rfl, _, rfl, a0, _, rfl, .inr (SqT.of ha0), p, n, m, (by rw [lx]; rfl), hp, by omega, n1, n6, fun t ld H1 ll lr ld' ht p1 x1 => ?_⟩
  have L : Ld n ld := ⟨ll, n1, n6, fun x hx => by have := lr x hx; omega⟩
  have ha1 := hp.keepT x1 ha0
  have hx1 := Shs.keepZ hp x1 hxs
  obtain ⟨b1, ys, rfl, hb1, hys⟩ := ru.keepZ hp x1
  refine ⟨_, rfl, _, rfl, t, ld, rfl, ht, fun l2 H2 s2 _ sp2 => ?_⟩
  refine ⟨a0, l2, xs, rwF us, _, rfl, s2 _ _ ha1, hx1.same s2, sp2, fit_one Wa L, fun l3 H3 s3 _ sp3 => ?_⟩
  have s23 := s2.trans s3
  refine ⟨_, rfl, _, rfl, t, ld, rfl, s23 _ _ ht, fun l4 H4 s4 _ sp4 => ?_⟩
  have s24 := s23.trans s4
  refine ⟨b1, l4, ys, rwF ws, _, rfl, s24 _ _ hb1, hys.same s24, sp4, fit_one Wb L, fun l5 H5 s5 _ sp5 => ?_⟩
  have s25 := s24.trans s5
  have sp35 := sp3.same (s4.trans s5)
  refine ⟨_, rfl, a0, _, rfl, .inr (SqT.of (s25 _ _ ha1)), _, _, rfl, rfl, _, rfl, by omega, by omega, for_range (n := (((xs.length : Nat) : Int) + 1).toNat) (lo := 0) (fun i σ H' => Same H5 H' ∧ ∃ o6, σ = [some (.ref p), some (.ref a0), some (.ref b1), some (.ref t), some (.ref l3), some (.ref l5), o6]) ⟨Same.refl _, _, rfl⟩ ?_ ?_⟩
  · rintro i σ H' hi ⟨s', o6, rfl⟩
    have hk : i ≤ ld.length := by omega
    have pre := pre_small (l := ld) (by omega) lr ld' hk
    rw [show (0 : Int) + (i : Int) = (i : Int) by omega]
    refine ⟨_, rfl, _, rfl, i, l3, _, rfl, sp35.same s', (mn_one Wa L).1, (mn_one Wa L).2, fun h1 H6 s6 ph => ?_⟩
    rw [mean_one Wa L pre] at ph
    refine ⟨_, rfl, _, rfl, i, l5, _, rfl, sp5.same (s'.trans s6), (mn_one Wb L).1, (mn_one Wb L).2, fun h2 H7 s7 ph2 => ?_⟩
    rw [mean_one Wb L pre] at ph2
    refine ⟨_, _, mW us ld i (endL ld i), mW ws ld i (endL ld i), rfl, ph.same s7, ph2, mW_sb Wa L _ _, mW_sb Wb L _ _, ?_⟩
    rw [decide_eq_false (mW_le Wb.pos Wa.pos (bh.le Wb.pos _))]
    exact ⟨_, rfl, iteF ⟨s'.trans (s6.trans s7), _, rfl⟩⟩
  · rintro σ H' ⟨s', o6, rfl⟩
    have sz := s25.trans s'
    exact k _ (p1.same sz) (x1.trans (Same.y sz))
end
end My
set_option Elab.async false
set_option linter.all false
set_option maxRecDepth 100000
set_option maxHeartbeats 4000000
namespace My
open PySem L2 MA Srt
section
variable {P : Program} {w : World} {K : PySem.W.Frag} {mg : Str → Option Value} {base : Heap}
theorem ok_law (T : Txt2 mg) (C_l_pen : Cal P w K mg base "_law_pen" ["_law_script"] 1 (spPenZ K)) (C_l_take : Cal P w K mg base "_law_take" ["_law_pen_here", "_law_many"] 1 (spTakeZ K)) (C_l_drawn_right : Cal P w K mg base "_law_drawn_right" ["_law_boxes", "_law_many"] 5 spDrawnR) (C_l_weights : Cal P w K mg base "_law_weights" ["_law_pen_here", "_law_boxes"] 2 (spWeights K))
    (C_l_rule : Cal P w K mg base "_law_rule" ["_law_weights_here"] 2 spRuleW) (C_l_behind : Cal P w K mg base "_law_behind" ["_law_pen_here", "_law_weights_here"] 2 (spBehind K)) (C_l_mixed_right : Cal P w K mg base "_law_mixed_right" ["_law_pen_here", "_law_one", "_law_other"] 5 (spMixedR K)) (C_l_means_right : Cal P w K mg base "_law_means_right" ["_law_pen_here", "_law_one", "_law_other"] 6 (spMeansR K))
    (C_l_parts_right : Cal P w K mg base "_law_parts_right" ["_law_one", "_law_other"] 6 spPartsR) {fa : Addr} {fd : FuncData} (F : Fun K "law" "law" s_law fa fd) : FnOk P w K mg base CX0 7 fa fd ["_law_script"] (spLaw K) := by
  have S := sc_law
  refine F.ok sc_law (fun vs H Q E h => ?_) (fun cdv A outer s H vs Q E hr h => ?_)
  · obtain ⟨a, ns, rfl, _⟩ := h; rfl
  obtain ⟨a, ns, rfl, ha, hn, k⟩ := h
  refine ⟨_, (@pss_cons _ _ _ _ _ (@ps_set _ _ (1) _ _ _ _ (by exact S.nd) (by rfl) (by first | exact Or.inl rfl | exact Or.inr rfl) (@cc _ _ _ _ _ _ _ _ _ _ (by exact C_l_pen) (by exact (hr.mono (by decide))) (@pa_consN _ _ _ _ _ (pv 0) pa_nil (by first|rfl|decide|exact .inl rfl|exact .inr rfl|(intros; rfl))) (by first|rfl|decide|exact .inl rfl|exact .inr rfl|(intros; rfl)) (by first|rfl|decide|exact .inl rfl|exact .inr rfl|(intros; rfl)) (by first|rfl|decide|exact .inl rfl|exact .inr rfl|(intros; rfl)) (by first|rfl|decide|exact .inl rfl|exact .inr rfl|(intros; rfl))) (by first|rfl|decide|exact .inl rfl|exact .inr rfl|(intros; rfl)) (by first|rfl|decide|exact .inl rfl|exact .inr rfl|(intros; rfl))) (@pss_cons _ _ _ _ _ (@ps_if _ _ _ _ _ _ _ _ (@pt_not _ _ _ _ (@pt_val _ _ _ (@cc _ _ _ _ _ _ _ _ _ _ (by exact C_l_drawn_right) (by exact (hr.mono (by decide))) (@pa_consN _ _ _ _ _ (@pe_op _ _ _ _ _ _ _ _ op_add pe_int (@cc _ _ _ _ _ _ _ _ _ _ (by exact C_l_take) (by exact (hr.mono (by decide))) (@pa_consN _ _ _ _ _ (pv 1) (@pa_consN _ _ _ _ _ pe_int pa_nil (by first|rfl|decide|exact .inl rfl|exact .inr rfl|(intros; rfl))) (by first|rfl|decide|exact .inl rfl|exact .inr rfl|(intros; rfl))) (by first|rfl|decide|exact .inl rfl|exact .inr rfl|(intros; rfl)) (by first|rfl|decide|exact .inl rfl|exact .inr rfl|(intros; rfl)) (by first|rfl|decide|exact .inl rfl|exact .inr rfl|(intros; rfl)) (by first|rfl|decide|exact .inl rfl|exact .inr rfl|(intros; rfl)))) (@pa_consN _ _ _ _ _ (@pe_op _ _ _ _ _ _ _ _ op_add pe_int (@cc _ _ _ _ _ _ _ _ _ _ (by exact C_l_take) (by exact (hr.mono (by decide))) (@pa_consN _ _ _ _ _ (pv 1) (@pa_consN _ _ _ _ _ pe_int pa_nil (by first|rfl|decide|exact .inl rfl|exact .inr rfl|(intros; rfl))) (by first|rfl|decide|exact .inl rfl|exact .inr rfl|(intros; rfl))) (by first|rfl|decide|exact .inl rfl|exact .inr rfl|(intros; rfl)) (by first|rfl|decide|exact .inl rfl|exact .inr rfl|(intros; rfl)) (by first|rfl|decide|exact .inl rfl|exact .inr rfl|(intros; rfl)) (by first|rfl|decide|exact .inl rfl|exact .inr rfl|(intros; rfl)))) pa_nil (by first|rfl|decide|exact .inl rfl|exact .inr rfl|(intros; rfl))) (by first|rfl|decide|exact .inl rfl|exact .inr rfl|(intros; rfl))) (by first|rfl|decide|exact .inl rfl|exact .inr rfl|(intros; rfl)) (by first|rfl|decide|exact .inl rfl|exact .inr rfl|(intros; rfl)) (by first|rfl|decide|exact .inl rfl|exact .inr rfl|(intros; rfl)) (by first|rfl|decide|exact .inl rfl|exact .inr rfl|(intros; rfl))) (by first|rfl|decide|exact .inl rfl|exact .inr rfl|(intros; rfl)))) (@pss_one _ _ _ (@ps_ret _ _ _ _ pe_bl)) pss_nil) (@pss_cons _ _ _ _ _ (@ps_for _ _ _ _ _ _ _ _ (by exact PassesOwn.never) (by rfl) (@pi_range1 _ _ _ _ _ _ (by rfl) (by exact T.z_range) (@pa_consN _ _ _ _ _ pe_int pa_nil (by first|rfl|decide|exact .inl rfl|exact .inr rfl|(intros; rfl))) (by first|rfl|decide|exact .inl rfl|exact .inr rfl|(intros; rfl))) (@pg_name _ _ (2) _ (by exact S.nd) (by rfl) (by first | exact Or.inl rfl | exact Or.inr rfl) (by first|rfl|decide|exact .inl rfl|exact .inr rfl|(intros; rfl))) (@pss_cons _ _ _ _ _ (@ps_set _ _ (3) _ _ _ _ (by exact S.nd) (by rfl) (by first | exact Or.inl rfl | exact Or.inr rfl) (@pe_op _ _ _ _ _ _ _ _ op_add pe_int (@cc _ _ _ _ _ _ _ _ _ _ (by exact C_l_take) (by exact (hr.mono (by decide))) (@pa_consN _ _ _ _ _ (pv 1) (@pa_consN _ _ _ _ _ pe_int pa_nil (by first|rfl|decide|exact .inl rfl|exact .inr rfl|(intros; rfl))) (by first|rfl|decide|exact .inl rfl|exact .inr rfl|(intros; rfl))) (by first|rfl|decide|exact .inl rfl|exact .inr rfl|(intros; rfl)) (by first|rfl|decide|exact .inl rfl|exact .inr rfl|(intros; rfl)) (by first|rfl|decide|exact .inl rfl|exact .inr rfl|(intros; rfl)) (by first|rfl|decide|exact .inl rfl|exact .inr rfl|(intros; rfl)))) (by first|rfl|decide|exact .inl rfl|exact .inr rfl|(intros; rfl)) (by first|rfl|decide|exact .inl rfl|exact .inr rfl|(intros; rfl))) (@pss_cons _ _ _ _ _ (@ps_set _ _ (4) _ _ _ _ (by exact S.nd) (by rfl) (by first | exact Or.inl rfl | exact Or.inr rfl) (@cc _ _ _ _ _ _ _ _ _ _ (by exact C_l_weights) (by exact (hr.mono (by decide))) (@pa_consN _ _ _ _ _ (pv 1) (@pa_consN _ _ _ _ _ (pv 3) pa_nil (by first|rfl|decide|exact .inl rfl|exact .inr rfl|(intros; rfl))) (by first|rfl|decide|exact .inl rfl|exact .inr rfl|(intros; rfl))) (by first|rfl|decide|exact .inl rfl|exact .inr rfl|(intros; rfl)) (by first|rfl|decide|exact .inl rfl|exact .inr rfl|(intros; rfl)) (by first|rfl|decide|exact .inl rfl|exact .inr rfl|(intros; rfl)) (by first|rfl|decide|exact .inl rfl|exact .inr rfl|(intros; rfl))) (by first|rfl|decide|exact .inl rfl|exact .inr rfl|(intros; rfl)) (by first|rfl|decide|exact .inl rfl|exact .inr rfl|(intros; rfl))) (@pss_cons _ _ _ _ _ (@ps_set _ _ (5) _ _ _ _ (by exact S.nd) (by rfl) (by first | exact Or.inl rfl | exact Or.inr rfl) (@cc _ _ _ _ _ _ _ _ _ _ (by exact C_l_rule) (by exact (hr.mono (by decide))) (@pa_consN _ _ _ _ _ (pv 4) pa_nil (by first|rfl|decide|exact .inl rfl|exact .inr rfl|(intros; rfl))) (by first|rfl|decide|exact .inl rfl|exact .inr rfl|(intros; rfl)) (by first|rfl|decide|exact .inl rfl|exact .inr rfl|(intros; rfl)) (by first|rfl|decide|exact .inl rfl|exact .inr rfl|(intros; rfl)) (by first|rfl|decide|exact .inl rfl|exact .inr rfl|(intros; rfl))) (by first|rfl|decide|exact .inl rfl|exact .inr rfl|(intros; rfl)) (by first|rfl|decide|exact .inl rfl|exact .inr rfl|(intros; rfl))) (@pss_cons _ _ _ _ _ (@ps_set _ _ (6) _ _ _ _ (by exact S.nd) (by rfl) (by first | exact Or.inl rfl | exact Or.inr rfl) (@cc _ _ _ _ _ _ _ _ _ _ (by exact C_l_rule) (by exact (hr.mono (by decide))) (@pa_consN _ _ _ _ _ (@cc _ _ _ _ _ _ _ _ _ _ (by exact C_l_behind) (by exact (hr.mono (by decide))) (@pa_consN _ _ _ _ _ (pv 1) (@pa_consN _ _ _ _ _ (pv 4) pa_nil (by first|rfl|decide|exact .inl rfl|exact .inr rfl|(intros; rfl))) (by first|rfl|decide|exact .inl rfl|exact .inr rfl|(intros; rfl))) (by first|rfl|decide|exact .inl rfl|exact .inr rfl|(intros; rfl)) (by first|rfl|decide|exact .inl rfl|exact .inr rfl|(intros; rfl)) (by first|rfl|decide|exact .inl rfl|exact .inr rfl|(intros; rfl)) (by first|rfl|decide|exact .inl rfl|exact .inr rfl|(intros; rfl))) pa_nil (by first|rfl|decide|exact .inl rfl|exact .inr rfl|(intros; rfl))) (by first|rfl|decide|exact .inl rfl|exact .inr rfl|(intros; rfl)) (by first|rfl|decide|exact .inl rfl|exact .inr rfl|(intros; rfl)) (by first|rfl|decide|exact .inl rfl|exact .inr rfl|(intros; rfl)) (by first|rfl|decide|exact .inl rfl|exact .inr rfl|(intros; rfl))) (by first|rfl|decide|exact .inl rfl|exact .inr rfl|(intros; rfl)) (by first|rfl|decide|exact .inl rfl|exact .inr rfl|(intros; rfl))) (@pss_cons _ _ _ _ _ (@ps_if _ _ _ _ _ _ _ _ (@PW.pt _ _ _ (@pw_or _ _ _ _ _ _ _ (@pt_not _ _ _ _ (@pt_val _ _ _ (@cc _ _ _ _ _ _ _ _ _ _ (by exact C_l_mixed_right) (by exact (hr.mono (by decide))) (@pa_consN _ _ _ _ _ (pv 1) (@pa_consN _ _ _ _ _ (pv 6) (@pa_consN _ _ _ _ _ (pv 5) pa_nil (by first|rfl|decide|exact .inl rfl|exact .inr rfl|(intros; rfl))) (by first|rfl|decide|exact .inl rfl|exact .inr rfl|(intros; rfl))) (by first|rfl|decide|exact .inl rfl|exact .inr rfl|(intros; rfl))) (by first|rfl|decide|exact .inl rfl|exact .inr rfl|(intros; rfl)) (by first|rfl|decide|exact .inl rfl|exact .inr rfl|(intros; rfl)) (by first|rfl|decide|exact .inl rfl|exact .inr rfl|(intros; rfl)) (by first|rfl|decide|exact .inl rfl|exact .inr rfl|(intros; rfl))) (by first|rfl|decide|exact .inl rfl|exact .inr rfl|(intros; rfl)))) (@pw_or1 _ _ _ _ (@pt_not _ _ _ _ (@pt_val _ _ _ (@cc _ _ _ _ _ _ _ _ _ _ (by exact C_l_means_right) (by exact (hr.mono (by decide))) (@pa_consN _ _ _ _ _ (pv 1) (@pa_consN _ _ _ _ _ (pv 6) (@pa_consN _ _ _ _ _ (pv 5) pa_nil (by first|rfl|decide|exact .inl rfl|exact .inr rfl|(intros; rfl))) (by first|rfl|decide|exact .inl rfl|exact .inr rfl|(intros; rfl))) (by first|rfl|decide|exact .inl rfl|exact .inr rfl|(intros; rfl))) (by first|rfl|decide|exact .inl rfl|exact .inr rfl|(intros; rfl)) (by first|rfl|decide|exact .inl rfl|exact .inr rfl|(intros; rfl)) (by first|rfl|decide|exact .inl rfl|exact .inr rfl|(intros; rfl)) (by first|rfl|decide|exact .inl rfl|exact .inr rfl|(intros; rfl))) (by first|rfl|decide|exact .inl rfl|exact .inr rfl|(intros; rfl))))))) (@pss_one _ _ _ (@ps_ret _ _ _ _ pe_bl)) pss_nil) (@pss_cons _ _ _ _ _ (@ps_set _ _ (7) _ _ _ _ (by exact S.nd) (by rfl) (by first | exact Or.inl rfl | exact Or.inr rfl) (@pe_op _ _ _ _ _ _ _ _ op_add pe_int (@cc _ _ _ _ _ _ _ _ _ _ (by exact C_l_take) (by exact (hr.mono (by decide))) (@pa_consN _ _ _ _ _ (pv 1) (@pa_consN _ _ _ _ _ pe_int pa_nil (by first|rfl|decide|exact .inl rfl|exact .inr rfl|(intros; rfl))) (by first|rfl|decide|exact .inl rfl|exact .inr rfl|(intros; rfl))) (by first|rfl|decide|exact .inl rfl|exact .inr rfl|(intros; rfl)) (by first|rfl|decide|exact .inl rfl|exact .inr rfl|(intros; rfl)) (by first|rfl|decide|exact .inl rfl|exact .inr rfl|(intros; rfl)) (by first|rfl|decide|exact .inl rfl|exact .inr rfl|(intros; rfl)))) (by first|rfl|decide|exact .inl rfl|exact .inr rfl|(intros; rfl)) (by first|rfl|decide|exact .inl rfl|exact .inr rfl|(intros; rfl))) (@pss_cons _ _ _ _ _ (@ps_set _ _ (8) _ _ _ _ (by exact S.nd) (by rfl) (by first | exact Or.inl rfl | exact Or.inr rfl) (@cc _ _ _ _ _ _ _ _ _ _ (by exact C_l_rule) (by exact (hr.mono (by decide))) (@pa_consN _ _ _ _ _ (@cc _ _ _ _ _ _ _ _ _ _ (by exact C_l_weights) (by exact (hr.mono (by decide))) (@pa_consN _ _ _ _ _ (pv 1) (@pa_consN _ _ _ _ _ (pv 7) pa_nil (by first|rfl|decide|exact .inl rfl|exact .inr rfl|(intros; rfl))) (by first|rfl|decide|exact .inl rfl|exact .inr rfl|(intros; rfl))) (by first|rfl|decide|exact .inl rfl|exact .inr rfl|(intros; rfl)) (by first|rfl|decide|exact .inl rfl|exact .inr rfl|(intros; rfl)) (by first|rfl|decide|exact .inl rfl|exact .inr rfl|(intros; rfl)) (by first|rfl|decide|exact .inl rfl|exact .inr rfl|(intros; rfl))) pa_nil (by first|rfl|decide|exact .inl rfl|exact .inr rfl|(intros; rfl))) (by first|rfl|decide|exact .inl rfl|exact .inr rfl|(intros; rfl)) (by first|rfl|decide|exact .inl rfl|exact .inr rfl|(intros; rfl)) (by first|rfl|decide|exact .inl rfl|exact .inr rfl|(intros; rfl)) (by first|rfl|decide|exact .inl rfl|exact .inr rfl|(intros; rfl))) (by first|rfl|decide|exact .inl rfl|exact .inr rfl|(intros; rfl)) (by first|rfl|decide|exact .inl rfl|exact .inr rfl|(intros; rfl))) (@pss_cons _ _ _ _ _ (@ps_set _ _ (9) _ _ _ _ (by exact S.nd) (by rfl) (by first | exact Or.inl rfl | exact Or.inr rfl) (@cc _ _ _ _ _ _ _ _ _ _ (by exact C_l_rule) (by exact (hr.mono (by decide))) (@pa_consN _ _ _ _ _ (@cc _ _ _ _ _ _ _ _ _ _ (by exact C_l_weights) (by exact (hr.mono (by decide))) (@pa_consN _ _ _ _ _ (pv 1) (@pa_consN _ _ _ _ _ (pv 7) pa_nil (by first|rfl|decide|exact .inl rfl|exact .inr rfl|(intros; rfl))) (by first|rfl|decide|exact .inl rfl|exact .inr rfl|(intros; rfl))) (by first|rfl|decide|exact .inl rfl|exact .inr rfl|(intros; rfl)) (by first|rfl|decide|exact .inl rfl|exact .inr rfl|(intros; rfl)) (by first|rfl|decide|exact .inl rfl|exact .inr rfl|(intros; rfl)) (by first|rfl|decide|exact .inl rfl|exact .inr rfl|(intros; rfl))) pa_nil (by first|rfl|decide|exact .inl rfl|exact .inr rfl|(intros; rfl))) (by first|rfl|decide|exact .inl rfl|exact .inr rfl|(intros; rfl)) (by first|rfl|decide|exact .inl rfl|exact .inr rfl|(intros; rfl)) (by first|rfl|decide|exact .inl rfl|exact .inr rfl|(intros; rfl)) (by first|rfl|decide|exact .inl rfl|exact .inr rfl|(intros; rfl))) (by first|rfl|decide|exact .inl rfl|exact .inr rfl|(intros; rfl)) (by first|rfl|decide|exact .inl rfl|exact .inr rfl|(intros; rfl))) (@pss_one _ _ _ (@ps_if _ _ _ _ _ _ _ _ (@PW.pt _ _ _ (@pw_or _ _ _ _ _ _ _ (@pt_not _ _ _ _ (@pt_val _ _ _ (@cc _ _ _ _ _ _ _ _ _ _ (by exact C_l_parts_right) (by exact (hr.mono (by decide))) (@pa_consN _ _ _ _ _ (pv 8) (@pa_consN _ _ _ _ _ (pv 9) pa_nil (by first|rfl|decide|exact .inl rfl|exact .inr rfl|(intros; rfl))) (by first|rfl|decide|exact .inl rfl|exact .inr rfl|(intros; rfl))) (by first|rfl|decide|exact .inl rfl|exact .inr rfl|(intros; rfl)) (by first|rfl|decide|exact .inl rfl|exact .inr rfl|(intros; rfl)) (by first|rfl|decide|exact .inl rfl|exact .inr rfl|(intros; rfl)) (by first|rfl|decide|exact .inl rfl|exact .inr rfl|(intros; rfl))) (by first|rfl|decide|exact .inl rfl|exact .inr rfl|(intros; rfl)))) (@pw_or1 _ _ _ _ (@pt_not _ _ _ _ (@pt_val _ _ _ (@cc _ _ _ _ _ _ _ _ _ _ (by exact C_l_parts_right) (by exact (hr.mono (by decide))) (@pa_consN _ _ _ _ _ (pv 9) (@pa_consN _ _ _ _ _ (pv 8) pa_nil (by first|rfl|decide|exact .inl rfl|exact .inr rfl|(intros; rfl))) (by first|rfl|decide|exact .inl rfl|exact .inr rfl|(intros; rfl))) (by first|rfl|decide|exact .inl rfl|exact .inr rfl|(intros; rfl)) (by first|rfl|decide|exact .inl rfl|exact .inr rfl|(intros; rfl)) (by first|rfl|decide|exact .inl rfl|exact .inr rfl|(intros; rfl)) (by first|rfl|decide|exact .inl rfl|exact .inr rfl|(intros; rfl))) (by first|rfl|decide|exact .inl rfl|exact .inr rfl|(intros; rfl))))))) (@pss_one _ _ _ (@ps_ret _ _ _ _ pe_bl)) pss_nil)))))))))) (by first|rfl|decide|exact .inl rfl|exact .inr rfl|(intros; rfl))) (@pss_one _ _ _ (@ps_ret _ _ _ _ pe_bl))))), ?_⟩
  refine ⟨_, rfl, a, ns, rfl, ha, fun p H1 s1 p1 => ?_⟩
  refine ⟨_, rfl, p, _, _, rfl, p1, by omega, by decide, by decide, fun r H2 r0 r1 p2 x2 => ?_⟩
  refine ⟨_, _, rfl, rfl, _, rfl, p, _, _, rfl, p2, by omega, by decide, by decide, fun r' H3 r0' r1' p3 x3 => ?_⟩
  refine ⟨_, _, rfl, rfl, (1 + r).toNat, (1 + r').toNat, (by rw [Int.toNat_of_nonneg (by omega), Int.toNat_of_nonneg (by omega)]; rfl), by omega, by omega, by omega, by omega, fun H4 s4 => ?_⟩
  refine ⟨_, rfl, iteF ?_⟩
  refine ⟨2, rfl, by decide, by decide, for_range (n := 2) (fun i σ H' => ∃ o2 o3 o4 o5 o6 o7 o8 o9, σ = [some (.ref a), some (.ref p), o2, o3, o4, o5, o6, o7, o8, o9] ∧ PenZ K H' p (2 + 62 * i)) ⟨_, _, _, _, _, _, _, _, rfl, p3.same s4⟩ ?_ ?_⟩
  · rintro i σ H5 hi ⟨o2, o3, o4, o5, o6, o7, o8, o9, rfl, p5⟩
    refine ⟨_, rfl, p, _, _, rfl, p5, by omega, by decide, by decide, fun b H6 b0 b1 p6 x6 => ?_⟩
    obtain ⟨n, en, n1, n6⟩ : ∃ n : Nat, 1 + b = (n : Int) ∧ 1 ≤ n ∧ n ≤ 6 := ⟨(1 + b).toNat, by omega, by omega, by omega⟩
    refine ⟨_, _, rfl, rfl, ?_⟩
    refine gN_eq (show _ = V.int (n : Int) from congrArg V.int en) ?_
    refine ⟨_, rfl, _, rfl, p, n, _, rfl, p6, by omega, n1, by omega, fun l ws H7 W hl p7 x7 => ?_⟩
    refine ⟨_, rfl, l, n, ws, rfl, hl, W, by omega, fun u H8 s8 ru => ?_⟩
    refine ⟨_, rfl, _, rfl, p, l, n, _, ws, rfl, p7.same s8, by omega, s8 _ _ hl, W, n1, by omega, fun l2 us H9 U bh hl2 p9 x9 => ?_⟩
    refine ⟨l2, n, us, rfl, hl2, U, by omega, fun v H10 s10 rv => ?_⟩
    have ru10 := (ru.keepZ (p7.same s8) x9).same s10
    have p10 := p9.same s10
    refine ⟨_, rfl, _, rfl, _, rfl, p, _, n, v, u, _, _, rfl, p10, by omega, rv, ru10, rw_fineN U, rw_fineN W, n1, n6, bh.le W.pos, fun H11 p11 x11 => ?_⟩
    refine ⟨_, rfl, iteF ?_⟩
    refine ⟨_, rfl, _, rfl, _, rfl, p, _, n, v, u, us, ws, rfl, p11, by omega, rv.keepZ p10 x11, ru10.keepZ p10 x11, U, W, bh, n1, n6, fun H12 p12 x12 => ?_⟩
    refine ⟨_, rfl, iteF ?_⟩
    refine ⟨_, rfl, p, _, _, rfl, p12, by omega, by decide, by decide, fun c H13 c0 c1 p13 x13 => ?_⟩
    obtain ⟨m, em, m1, m3⟩ : ∃ m : Nat, 2 + c = (m : Int) ∧ 1 ≤ m ∧ m ≤ 3 := ⟨(2 + c).toNat, by omega, by omega, by omega⟩
    refine ⟨_, _, rfl, rfl, ?_⟩
    refine gN_eq (show _ = V.int (m : Int) from congrArg V.int em) ?_
    refine ⟨_, rfl, _, rfl, p, m, _, rfl, p13, by omega, m1, by omega, fun l3 as H14 Wa hl3 p14 x14 => ?_⟩
    refine ⟨l3, m, as, rfl, hl3, Wa, by omega, fun v1 H15 s15 rv1 => ?_⟩
    have p15 := p14.same s15
    refine ⟨_, rfl, _, rfl, p, m, _, rfl, p15, by omega, m1, by omega, fun l4 bs H16 Wb hl4 p16 x16 => ?_⟩
    refine ⟨l4, m, bs, rfl, hl4, Wb, by omega, fun v2 H17 s17 rv2 => ?_⟩
    have rv17 := (rv1.keepZ p15 x16).same s17
    refine ⟨_, rfl, _, rfl, v1, v2, m, as, bs, rfl, rv17, rv2, Wa, Wb, m1, m3, fun H18 s18 => ?_⟩
    refine ⟨_, rfl, iteF ?_⟩
    refine ⟨_, rfl, _, rfl, v2, v1, m, bs, as, rfl, rv2.same s18, rv17.same s18, Wb, Wa, m1, m3, fun H19 s19 => ?_⟩
    exact ⟨_, rfl, iteF ⟨_, _, _, _, _, _, _, _, rfl, (p16.same (s17.trans (s18.trans s19))).mono (by omega)⟩⟩
  · rintro σ H' ⟨o2, o3, o4, o5, o6, o7, o8, o9, rfl, p5⟩
    exact k _
end
end My
set_option Elab.async false
set_option linter.all false
set_option maxRecDepth 100000
set_option maxHeartbeats 4000000
namespace L2
open PySem PySem.W PyProof.Rows
theorem headK {r : OpenRow} {q : Program} {H : Hook} {N : Nat} {d : DefRec}
    (top : LeftO r.prog q [] (fun s => xlAt q [] s && recOk r.toRowW.records s) H.obs H.val N)
    (at0 : defOf q r.name = some (d, [])) (here : r.prog.theDef r.name = some (d.params, d.body, d.scope)) (kwd : kwWritten? d.params.kwonlyargs d.params.kw_defaults = some [])
    (writ : (!r.writes || r.records.isEmpty) = true) (said : r.wellSaid = true) (looks : (chainsOk q && opensWell r.prog && (frees r.toRowW && r.within.isEmpty)) = true) (bare : r.prog.bare)
    (prom : r.toRowW.promised) (walk : WalkO q [] (XL q []) H.says r.toRowW d [] fun f vs => PySem.call f vs) : r.Holds :=
  holds_open top H.of H.keeps (fun s e => xl_of s (Bool.and_eq_true_iff.mp e).1) XL.keeps at0 here kwd (fun s e => recFacts_of (Bool.and_eq_true_iff.mp e).2) writ said looks bare prom walk
end L2
namespace My
open PySem L2 MA
theorem ar1 {C : List Value → Prop} (h : ∀ a0, C [a0]) : ∀ us : List Value, us.length = 1 → C us
  | [a0], _ => h a0
theorem ar2 {C : List Value → Prop} (h : ∀ a0 a1, C [a0, a1]) : ∀ us : List Value, us.length = 2 → C us
  | [a0, a1], _ => h a0 a1
theorem ar3 {C : List Value → Prop} (h : ∀ a0 a1 a2, C [a0, a1, a2]) : ∀ us : List Value, us.length = 3 → C us
  | [a0, a1, a2], _ => h a0 a1 a2
structure Funs (K : PySem.W.Frag) (mg : Str → Option Value) : Prop where
  f_measure : FunAt K mg "measure" ["a", "b"] s_measure
  f_plus : FunAt K mg "plus" ["a", "b"] s_plus
  f_minus : FunAt K mg "minus" ["a", "b"] s_minus
  f_times : FunAt K mg "times" ["a", "b"] s_times
  f_parted : FunAt K mg "parted" ["top", "bottoms"] s_parted
  f_weighed : FunAt K mg "weighed" ["some"] s_weighed
  f_ask_as_many : FunAt K mg "ask_as_many" ["one", "other"] s_ask_as_many
  f_drawn : FunAt K mg "drawn" ["n", "many"] s_drawn
  f_rows_up_to : FunAt K mg "rows_up_to" ["rank", "many"] s_rows_up_to
  f_unlike : FunAt K mg "unlike" ["n", "many"] s_unlike
  f_sets : FunAt K mg "sets" ["things", "many"] s_sets
  f_mixed : FunAt K mg "mixed" ["share", "one", "other"] s_mixed
  f_fuller_at : FunAt K mg "fuller_at" ["one", "other"] s_fuller_at
  f_parting : FunAt K mg "parting" ["one", "other"] s_parting
  f_mean_of : FunAt K mg "mean_of" ["spread", "numbers"] s_mean_of
  f_first_mean : FunAt K mg "first_mean" ["spread", "k"] s_first_mean
  f_falling : FunAt K mg "falling" ["numbers"] s_falling
  f_put_at : FunAt K mg "put_at" ["load", "rank"] s_put_at
  f_alone : FunAt K mg "alone" ["load"] s_alone
  f_gathered : FunAt K mg "gathered" ["rows"] s_gathered
  f_weights_of : FunAt K mg "weights_of" ["spread"] s_weights_of
  f_spread_of : FunAt K mg "spread_of" ["weights", "bottoms"] s_spread_of
  f_come : FunAt K mg "come" ["chances", "weights"] s_come
  f_ask_boxes : FunAt K mg "ask_boxes" ["ranks", "load"] s_ask_boxes
  f_after : FunAt K mg "after" ["rule", "spread", "many"] s_after
  f_put : FunAt K mg "put" ["rule", "spread"] s_put
  f_l_pen : FunAt K mg "_law_pen" ["_law_script"] s_l_pen
  f_l_take : FunAt K mg "_law_take" ["_law_pen_here", "_law_many"] s_l_take
  f_l_share : FunAt K mg "_law_share" ["_law_top", "_law_bottom"] s_l_share
  f_l_weights : FunAt K mg "_law_weights" ["_law_pen_here", "_law_boxes"] s_l_weights
  f_l_rule : FunAt K mg "_law_rule" ["_law_weights_here"] s_l_rule
  f_l_behind : FunAt K mg "_law_behind" ["_law_pen_here", "_law_weights_here"] s_l_behind
  f_l_is_more : FunAt K mg "_law_is_more" ["_law_a", "_law_b"] s_l_is_more
  f_l_drawn_right : FunAt K mg "_law_drawn_right" ["_law_boxes", "_law_many"] s_l_drawn_right
  f_l_mixed_right : FunAt K mg "_law_mixed_right" ["_law_pen_here", "_law_one", "_law_other"] s_l_mixed_right
  f_l_parts_right : FunAt K mg "_law_parts_right" ["_law_one", "_law_other"] s_l_parts_right
  f_l_load : FunAt K mg "_law_load" ["_law_pen_here", "_law_boxes"] s_l_load
  f_l_means_right : FunAt K mg "_law_means_right" ["_law_pen_here", "_law_one", "_law_other"] s_l_means_right
theorem all_mk {l : PySem.W.OpenLaw} {w : World} {K : PySem.W.Frag} {h : Heap} {mg : Str → Option Value} {fa f3 : Addr} (X : K.In h) (G : h.Ns mainGlobals mg) (hfa : mg "law" = some (.ref fa))
    {od3 an3 : Option Addr} {sl3 : Array (Option Value)} {oc3 kV3 dc3 pm3 cd3 ct3 : Value} (T : Txt2 mg) (FA : Funs K mg) {tk_MOST_LOADS : Tok} (h_MOST_LOADS : mg "MOST_LOADS" = some (.int 60 tk_MOST_LOADS))
    (a3 : PySem.W.nsIn K mainGlobals "law" = some (some (.ref f3))) (l3 : K.lookup f3 = some ⟨oc3, od3, .func (PySem.W.fnOf "law" "law" (defArgs s_law) (defBody s_law) (defScope s_law) .none kV3 dc3 pm3 an3 cd3 ct3), sl3⟩) (c3 : PySem.W.codeIn K cd3 "law" = true) (k3 : PySem.W.keepIn K (.ref f3) = true) :
    ∃ fd : FuncData, (∀ (s : Shared) (v : Value), BindsTo s fd ⟨[v], []⟩ [("_law_script", v)]) ∧ ∀ base : Heap, K.In base → base.Ns mainGlobals mg → FnOk l.prog w K mg base CX0 7 fa fd ["_law_script"] (spLaw K) := by
  have e := hfa.symm.trans (PySem.W.mg_of X G a3)
  cases e
  have F3 := fun_mk (st := s_law) l3 c3 k3
  refine ⟨PySem.W.fnOf "law" "law" (defArgs s_law) (defBody s_law) (defScope s_law) .none kV3 dc3 pm3 an3 cd3 ct3, fun s v => .of_eq rfl, fun base _ _ => ?_⟩
  have c_measure := ok_measure (P := l.prog) (w := w) (base := base) T.toTxt FA.f_measure
  have c_plus := ok_plus c_measure FA.f_plus
  have c_minus := ok_minus c_plus FA.f_minus
  have c_times := ok_times c_measure FA.f_times
  have c_parted := ok_parted c_measure FA.f_parted
  have c_ask := ok_ask (P := l.prog) (w := w) (base := base) T FA.f_ask_as_many
  have c_rowsup := ok_rowsup (P := l.prog) (w := w) (base := base) T.toTxt FA.f_rows_up_to
  have c_drawn := ok_drawn T.toTxt c_parted c_rowsup FA.f_drawn
  have c_sets := ok_sets (P := l.prog) (w := w) (base := base) T.toTxt FA.f_sets
  have c_unlike := ok_unlike T.toTxt c_parted c_sets FA.f_unlike
  have c_mixed := ok_mixed T c_ask c_plus c_minus c_times FA.f_mixed
  have c_full := ok_fullat T c_ask c_plus c_minus FA.f_fuller_at
  have c_part := ok_parting T c_full FA.f_parting
  have c_falling := ok_falling (P := l.prog) (w := w) (base := base) T FA.f_falling
  have c_putat := ok_putat T c_falling FA.f_put_at
  have c_weighed := ok_weighQ c_measure FA.f_weighed
  have c_gathered := ok_gathered (P := l.prog) (w := w) (base := base) FA.f_gathered
  have c_spreadof := ok_spreadof T c_parted FA.f_spread_of
  have c_weightsof := ok_weightsof T c_weighed FA.f_weights_of
  have c_come := ok_come T c_putat c_gathered FA.f_come
  have c_askb := ok_askB (P := l.prog) (w := w) (base := base) T FA.f_ask_boxes
  have c_after := ok_after T h_MOST_LOADS c_askb c_weighed c_weightsof c_come c_spreadof FA.f_after
  have c_put := ok_put c_after FA.f_put
  have c_alone := ok_alone (P := l.prog) (w := w) (base := base) FA.f_alone
  have c_meanof := ok_meanof T c_weighed c_parted FA.f_mean_of
  have c_first := ok_first T c_meanof FA.f_first_mean
  have c_pen := ok_penZ (P := l.prog) (w := w) (base := base) FA.f_l_pen
  have c_take := ok_take (P := l.prog) (w := w) (base := base) T.toTxt FA.f_l_take
  have c_share := ok_shareL (P := l.prog) (w := w) (base := base) T FA.f_l_share
  have c_weights := ok_weights T c_take FA.f_l_weights
  have c_rule := ok_rule T c_share FA.f_l_rule
  have c_behind := ok_behind T c_take FA.f_l_behind
  have c_more := ok_more (P := l.prog) (w := w) (base := base) FA.f_l_is_more
  have c_load := ok_load T c_take FA.f_l_load
  have c_drawnR := ok_drawnR T c_drawn c_unlike c_full FA.f_l_drawn_right
  have c_mixedR := ok_mixedR T c_take c_share c_mixed c_full FA.f_l_mixed_right
  have c_partsR := ok_partsR c_part c_full c_put c_alone c_first c_more FA.f_l_parts_right
  have c_meansR := ok_meansR T c_load c_put c_alone c_first c_more FA.f_l_means_right
  exact ok_law T c_pen c_take c_drawnR c_weights c_rule c_behind c_mixedR c_meansR c_partsR F3
theorem walk {l : PySem.W.OpenLaw} {q : Program} {loose : List Str} {XP : (Str → Option Value) → Heap → Prop} {YP : World → Heap → Prop} {d : DefRec} {K : Params → PySem.W.Frag} (hn : l.most = some 63) (hdf : d.params.defaults = [])
    (hY : ∀ (w : World) (h : Heap), YP w h → (K w.params).In h)
    (F : ∀ (w : World) (mg : Str → Option Value) (fa : Addr) (h : Heap), (K w.params).In h → h.Ns mainGlobals mg → mg d.name = some (.ref fa) →
      ∃ fd : FuncData, (∀ (s : Shared) (u : Value), BindsTo s fd ⟨[u], []⟩ [("_law_script", u)]) ∧ ∀ base : Heap, (K w.params).In base → base.Ns mainGlobals mg → FnOk l.prog w (K w.params) mg base CX0 7 fa fd ["_law_script"] (spLaw (K w.params))) :
    PySem.W.WalkO q loose XP YP l.row.toRowW d [] (fun f vs => PySem.call f vs) :=
  L2.walk_of (n := 63) (k := 7) (x := "_law_script") (CX := fun _ => CX0) (sp := fun w => spLaw (K w.params)) hn (by decide) hdf ⟨rfl, by decide, by decide, rfl⟩ hY F (fun _ _ a ns hl _ hS => ⟨a, ns, rfl, hS, hl, fun _ => rfl⟩) fun _ _ _ _ _ z => z
theorem mr_MOST_LOADS {K : PySem.W.Frag} {h : Heap} {mg : Str → Option Value} {tk : Tok} (X : K.In h) (G : h.Ns mainGlobals mg) (a : PySem.W.nsIn K mainGlobals "MOST_LOADS" = some (some (.int 60 tk))) : ∃ tk : Tok, mg "MOST_LOADS" = some (.int 60 tk) := ⟨tk, PySem.W.mg_of X G a⟩
theorem txt_mk {K : PySem.W.Frag} {h : Heap} {mg : Str → Option Value} (X : K.In h) (G : h.Ns mainGlobals mg)
    (z_abs : PySem.W.nsIn K mainGlobals "abs" = some none)
    (z_len : PySem.W.nsIn K mainGlobals "len" = some none)
    (z_isinstance : PySem.W.nsIn K mainGlobals "isinstance" = some none)
    (z_range : PySem.W.nsIn K mainGlobals "range" = some none)
    (z_int : PySem.W.nsIn K mainGlobals "int" = some none)
    (z_bool : PySem.W.nsIn K mainGlobals "bool" = some none)
    (z_tuple : PySem.W.nsIn K mainGlobals "tuple" = some none)
    (z_list : PySem.W.nsIn K mainGlobals "list" = some none)
    (z_all : PySem.W.nsIn K mainGlobals "all" = some none)
    (z_str : PySem.W.nsIn K mainGlobals "str" = some none)
    (z_repr : PySem.W.nsIn K mainGlobals "repr" = some none)
    (z_dict : PySem.W.nsIn K mainGlobals "dict" = some none)
    (z_sum : PySem.W.nsIn K mainGlobals "sum" = some none)
    (z_sorted : PySem.W.nsIn K mainGlobals "sorted" = some none)
    (z_max : PySem.W.nsIn K mainGlobals "max" = some none)
    (z_min : PySem.W.nsIn K mainGlobals "min" = some none)
    (z_any : PySem.W.nsIn K mainGlobals "any" = some none)
    (z_enumerate : PySem.W.nsIn K mainGlobals "enumerate" = some none)
    (z_zip : PySem.W.nsIn K mainGlobals "zip" = some none)
    (z_set : PySem.W.nsIn K mainGlobals "set" = some none)
    (z_reversed : PySem.W.nsIn K mainGlobals "reversed" = some none)
    (z_ValueError : PySem.W.nsIn K mainGlobals "ValueError" = some none)
    : Txt2 mg := ⟨⟨PySem.W.mg_none_of X G z_abs, PySem.W.mg_none_of X G z_len, PySem.W.mg_none_of X G z_isinstance, PySem.W.mg_none_of X G z_range, PySem.W.mg_none_of X G z_int, PySem.W.mg_none_of X G z_bool, PySem.W.mg_none_of X G z_tuple, PySem.W.mg_none_of X G z_list, PySem.W.mg_none_of X G z_all⟩, PySem.W.mg_none_of X G z_str, PySem.W.mg_none_of X G z_repr, PySem.W.mg_none_of X G z_dict, PySem.W.mg_none_of X G z_sum, PySem.W.mg_none_of X G z_sorted, PySem.W.mg_none_of X G z_max, PySem.W.mg_none_of X G z_min, PySem.W.mg_none_of X G z_any, PySem.W.mg_none_of X G z_enumerate, PySem.W.mg_none_of X G z_zip, PySem.W.mg_none_of X G z_set, PySem.W.mg_none_of X G z_reversed, PySem.W.mg_none_of X G z_ValueError⟩
end My
noncomputable def My.qv : PySem.Program := { PySem.Challenge.pw_emptierbox_k24_whole_more_drawn_are_no_f with main := { PySem.Challenge.pw_emptierbox_k24_whole_more_drawn_are_no_f.main with body := [My.top 1, My.top 2, My.top 3, My.top 5, My.top 6, My.top 7, My.top 8, My.top 9, My.top 10, My.top 12, My.top 13, My.top 14, My.top 15, My.top 16, My.top 17, My.top 19, My.top 20, My.top 22, My.top 23, My.top 25, My.top 26, My.top 28, My.top 29, My.top 30, My.top 31, My.top 32, My.top 33, My.top 34, My.top 35, My.top 36, My.top 38, My.top 39, My.top 40, My.top 41, My.top 42, My.top 43, My.top 44, My.top 45, My.top 46, My.top 47, My.top 48, My.top 49, My.top 50, My.top 51] } }
open PySem PySem.W PyProof.Rows
local macro_rules | `(tactic| o_head $H) => `(tactic| (refine L2.headK (q := My.qv) (H := $H) (N := 9000) ?_ rfl rfl rfl rfl (by assumption) (by decide +kernel) ⟨rfl, rfl, rfl, rfl, rfl, by decide +kernel⟩ ?_ ?_; (focus intro w; kernel_rfl)))
set_option maxRecDepth 100000 in
set_option maxHeartbeats 0 in
theorem PySem.Challenge.cw_emptierbox_k24_whole_more_drawn_are_no_f_holds : PySem.Challenge.rw_emptierbox_k24_whole_more_drawn_are_no_f.Holds := by
  w_on; o_law; k_head
  · w_witness2
  k_fill
  refine My.walk (l := PySem.Challenge.rw_emptierbox_k24_whole_more_drawn_are_no_f) rfl rfl (fun w h Y => PySem.W.kIn_of Y) ?F
  case F =>
    intro w mg fa h KX G hmg
    have T : My.Txt2 mg := by
      refine' My.txt_mk KX G ?z0 ?z1 ?z2 ?z3 ?z4 ?z5 ?z6 ?z7 ?z8 ?z9 ?z10 ?z11 ?z12 ?z13 ?z14 ?z15 ?z16 ?z17 ?z18 ?z19 ?z20 ?z21
      case z0 | z1 | z2 | z3 | z4 | z5 | z6 | z7 | z8 | z9 | z10 | z11 | z12 | z13 | z14 | z15 | z16 | z17 | z18 | z19 | z20 | z21 => k_is
    have f_measure : L2.FunAt (L2.KOf KX) mg "measure" ["a", "b"] My.s_measure := by
      dsimp only [L2.KOf]
      refine' L2.funAt_mk KX G (fun _ _ _ _ _ _ => My.ar2 fun _ _ => rfl) ?a ?l ?c ?k
      case a | l | c | k => k_is
    have f_plus : L2.FunAt (L2.KOf KX) mg "plus" ["a", "b"] My.s_plus := by
      dsimp only [L2.KOf]
      refine' L2.funAt_mk KX G (fun _ _ _ _ _ _ => My.ar2 fun _ _ => rfl) ?a ?l ?c ?k
      case a | l | c | k => k_is
    have f_minus : L2.FunAt (L2.KOf KX) mg "minus" ["a", "b"] My.s_minus := by
      dsimp only [L2.KOf]
      refine' L2.funAt_mk KX G (fun _ _ _ _ _ _ => My.ar2 fun _ _ => rfl) ?a ?l ?c ?k
      case a | l | c | k => k_is
    have f_times : L2.FunAt (L2.KOf KX) mg "times" ["a", "b"] My.s_times := by
      dsimp only [L2.KOf]
      refine' L2.funAt_mk KX G (fun _ _ _ _ _ _ => My.ar2 fun _ _ => rfl) ?a ?l ?c ?k
      case a | l | c | k => k_is
    have f_parted : L2.FunAt (L2.KOf KX) mg "parted" ["top", "bottoms"] My.s_parted := by
      dsimp only [L2.KOf]
      refine' L2.funAt_mk KX G (fun _ _ _ _ _ _ => My.ar2 fun _ _ => rfl) ?a ?l ?c ?k
      case a | l | c | k => k_is
    have f_weighed : L2.FunAt (L2.KOf KX) mg "weighed" ["some"] My.s_weighed := by
      dsimp only [L2.KOf]
      refine' L2.funAt_mk KX G (fun _ _ _ _ _ _ => My.ar1 fun _ => rfl) ?a ?l ?c ?k
      case a | l | c | k => k_is
    have f_ask_as_many : L2.FunAt (L2.KOf KX) mg "ask_as_many" ["one", "other"] My.s_ask_as_many := by
      dsimp only [L2.KOf]
      refine' L2.funAt_mk KX G (fun _ _ _ _ _ _ => My.ar2 fun _ _ => rfl) ?a ?l ?c ?k
      case a | l | c | k => k_is
    have f_drawn : L2.FunAt (L2.KOf KX) mg "drawn" ["n", "many"] My.s_drawn := by
      dsimp only [L2.KOf]
      refine' L2.funAt_mk KX G (fun _ _ _ _ _ _ => My.ar2 fun _ _ => rfl) ?a ?l ?c ?k
      case a | l | c | k => k_is
    have f_rows_up_to : L2.FunAt (L2.KOf KX) mg "rows_up_to" ["rank", "many"] My.s_rows_up_to := by
      dsimp only [L2.KOf]
      refine' L2.funAt_mk KX G (fun _ _ _ _ _ _ => My.ar2 fun _ _ => rfl) ?a ?l ?c ?k
      case a | l | c | k => k_is
    have f_unlike : L2.FunAt (L2.KOf KX) mg "unlike" ["n", "many"] My.s_unlike := by
      dsimp only [L2.KOf]
      refine' L2.funAt_mk KX G (fun _ _ _ _ _ _ => My.ar2 fun _ _ => rfl) ?a ?l ?c ?k
      case a | l | c | k => k_is
    have f_sets : L2.FunAt (L2.KOf KX) mg "sets" ["things", "many"] My.s_sets := by
      dsimp only [L2.KOf]
      refine' L2.funAt_mk KX G (fun _ _ _ _ _ _ => My.ar2 fun _ _ => rfl) ?a ?l ?c ?k
      case a | l | c | k => k_is
    have f_mixed : L2.FunAt (L2.KOf KX) mg "mixed" ["share", "one", "other"] My.s_mixed := by
      dsimp only [L2.KOf]
      refine' L2.funAt_mk KX G (fun _ _ _ _ _ _ => My.ar3 fun _ _ _ => rfl) ?a ?l ?c ?k
      case a | l | c | k => k_is
    have f_fuller_at : L2.FunAt (L2.KOf KX) mg "fuller_at" ["one", "other"] My.s_fuller_at := by
      dsimp only [L2.KOf]
      refine' L2.funAt_mk KX G (fun _ _ _ _ _ _ => My.ar2 fun _ _ => rfl) ?a ?l ?c ?k
      case a | l | c | k => k_is
    have f_parting : L2.FunAt (L2.KOf KX) mg "parting" ["one", "other"] My.s_parting := by
      dsimp only [L2.KOf]
      refine' L2.funAt_mk KX G (fun _ _ _ _ _ _ => My.ar2 fun _ _ => rfl) ?a ?l ?c ?k
      case a | l | c | k => k_is
    have f_mean_of : L2.FunAt (L2.KOf KX) mg "mean_of" ["spread", "numbers"] My.s_mean_of := by
      dsimp only [L2.KOf]
      refine' L2.funAt_mk KX G (fun _ _ _ _ _ _ => My.ar2 fun _ _ => rfl) ?a ?l ?c ?k
      case a | l | c | k => k_is
    have f_first_mean : L2.FunAt (L2.KOf KX) mg "first_mean" ["spread", "k"] My.s_first_mean := by
      dsimp only [L2.KOf]
      refine' L2.funAt_mk KX G (fun _ _ _ _ _ _ => My.ar2 fun _ _ => rfl) ?a ?l ?c ?k
      case a | l | c | k => k_is
    have f_falling : L2.FunAt (L2.KOf KX) mg "falling" ["numbers"] My.s_falling := by
      dsimp only [L2.KOf]
      refine' L2.funAt_mk KX G (fun _ _ _ _ _ _ => My.ar1 fun _ => rfl) ?a ?l ?c ?k
      case a | l | c | k => k_is
    have f_put_at : L2.FunAt (L2.KOf KX) mg "put_at" ["load", "rank"] My.s_put_at := by
      dsimp only [L2.KOf]
      refine' L2.funAt_mk KX G (fun _ _ _ _ _ _ => My.ar2 fun _ _ => rfl) ?a ?l ?c ?k
      case a | l | c | k => k_is
    have f_alone : L2.FunAt (L2.KOf KX) mg "alone" ["load"] My.s_alone := by
      dsimp only [L2.KOf]
      refine' L2.funAt_mk KX G (fun _ _ _ _ _ _ => My.ar1 fun _ => rfl) ?a ?l ?c ?k
      case a | l | c | k => k_is
    have f_gathered : L2.FunAt (L2.KOf KX) mg "gathered" ["rows"] My.s_gathered := by
      dsimp only [L2.KOf]
      refine' L2.funAt_mk KX G (fun _ _ _ _ _ _ => My.ar1 fun _ => rfl) ?a ?l ?c ?k
      case a | l | c | k => k_is
    have f_weights_of : L2.FunAt (L2.KOf KX) mg "weights_of" ["spread"] My.s_weights_of := by
      dsimp only [L2.KOf]
      refine' L2.funAt_mk KX G (fun _ _ _ _ _ _ => My.ar1 fun _ => rfl) ?a ?l ?c ?k
      case a | l | c | k => k_is
    have f_spread_of : L2.FunAt (L2.KOf KX) mg "spread_of" ["weights", "bottoms"] My.s_spread_of := by
      dsimp only [L2.KOf]
      refine' L2.funAt_mk KX G (fun _ _ _ _ _ _ => My.ar2 fun _ _ => rfl) ?a ?l ?c ?k
      case a | l | c | k => k_is
    have f_come : L2.FunAt (L2.KOf KX) mg "come" ["chances", "weights"] My.s_come := by
      dsimp only [L2.KOf]
      refine' L2.funAt_mk KX G (fun _ _ _ _ _ _ => My.ar2 fun _ _ => rfl) ?a ?l ?c ?k
      case a | l | c | k => k_is
    have f_ask_boxes : L2.FunAt (L2.KOf KX) mg "ask_boxes" ["ranks", "load"] My.s_ask_boxes := by
      dsimp only [L2.KOf]
      refine' L2.funAt_mk KX G (fun _ _ _ _ _ _ => My.ar2 fun _ _ => rfl) ?a ?l ?c ?k
      case a | l | c | k => k_is
    have f_after : L2.FunAt (L2.KOf KX) mg "after" ["rule", "spread", "many"] My.s_after := by
      dsimp only [L2.KOf]
      refine' L2.funAt_mk KX G (fun _ _ _ _ _ _ => My.ar3 fun _ _ _ => rfl) ?a ?l ?c ?k
      case a | l | c | k => k_is
    have f_put : L2.FunAt (L2.KOf KX) mg "put" ["rule", "spread"] My.s_put := by
      dsimp only [L2.KOf]
      refine' L2.funAt_mk KX G (fun _ _ _ _ _ _ => My.ar2 fun _ _ => rfl) ?a ?l ?c ?k
      case a | l | c | k => k_is
    have f_l_pen : L2.FunAt (L2.KOf KX) mg "_law_pen" ["_law_script"] My.s_l_pen := by
      dsimp only [L2.KOf]
      refine' L2.funAt_mk KX G (fun _ _ _ _ _ _ => My.ar1 fun _ => rfl) ?a ?l ?c ?k
      case a | l | c | k => k_is
    have f_l_take : L2.FunAt (L2.KOf KX) mg "_law_take" ["_law_pen_here", "_law_many"] My.s_l_take := by
      dsimp only [L2.KOf]
      refine' L2.funAt_mk KX G (fun _ _ _ _ _ _ => My.ar2 fun _ _ => rfl) ?a ?l ?c ?k
      case a | l | c | k => k_is
    have f_l_share : L2.FunAt (L2.KOf KX) mg "_law_share" ["_law_top", "_law_bottom"] My.s_l_share := by
      dsimp only [L2.KOf]
      refine' L2.funAt_mk KX G (fun _ _ _ _ _ _ => My.ar2 fun _ _ => rfl) ?a ?l ?c ?k
      case a | l | c | k => k_is
    have f_l_weights : L2.FunAt (L2.KOf KX) mg "_law_weights" ["_law_pen_here", "_law_boxes"] My.s_l_weights := by
      dsimp only [L2.KOf]
      refine' L2.funAt_mk KX G (fun _ _ _ _ _ _ => My.ar2 fun _ _ => rfl) ?a ?l ?c ?k
      case a | l | c | k => k_is
    have f_l_rule : L2.FunAt (L2.KOf KX) mg "_law_rule" ["_law_weights_here"] My.s_l_rule := by
      dsimp only [L2.KOf]
      refine' L2.funAt_mk KX G (fun _ _ _ _ _ _ => My.ar1 fun _ => rfl) ?a ?l ?c ?k
      case a | l | c | k => k_is
    have f_l_behind : L2.FunAt (L2.KOf KX) mg "_law_behind" ["_law_pen_here", "_law_weights_here"] My.s_l_behind := by
      dsimp only [L2.KOf]
      refine' L2.funAt_mk KX G (fun _ _ _ _ _ _ => My.ar2 fun _ _ => rfl) ?a ?l ?c ?k
      case a | l | c | k => k_is
    have f_l_is_more : L2.FunAt (L2.KOf KX) mg "_law_is_more" ["_law_a", "_law_b"] My.s_l_is_more := by
      dsimp only [L2.KOf]
      refine' L2.funAt_mk KX G (fun _ _ _ _ _ _ => My.ar2 fun _ _ => rfl) ?a ?l ?c ?k
      case a | l | c | k => k_is
    have f_l_drawn_right : L2.FunAt (L2.KOf KX) mg "_law_drawn_right" ["_law_boxes", "_law_many"] My.s_l_drawn_right := by
      dsimp only [L2.KOf]
      refine' L2.funAt_mk KX G (fun _ _ _ _ _ _ => My.ar2 fun _ _ => rfl) ?a ?l ?c ?k
      case a | l | c | k => k_is
    have f_l_mixed_right : L2.FunAt (L2.KOf KX) mg "_law_mixed_right" ["_law_pen_here", "_law_one", "_law_other"] My.s_l_mixed_right := by
      dsimp only [L2.KOf]
      refine' L2.funAt_mk KX G (fun _ _ _ _ _ _ => My.ar3 fun _ _ _ => rfl) ?a ?l ?c ?k
      case a | l | c | k => k_is
    have f_l_parts_right : L2.FunAt (L2.KOf KX) mg "_law_parts_right" ["_law_one", "_law_other"] My.s_l_parts_right := by
      dsimp only [L2.KOf]
      refine' L2.funAt_mk KX G (fun _ _ _ _ _ _ => My.ar2 fun _ _ => rfl) ?a ?l ?c ?k
      case a | l | c | k => k_is
    have f_l_load : L2.FunAt (L2.KOf KX) mg "_law_load" ["_law_pen_here", "_law_boxes"] My.s_l_load := by
      dsimp only [L2.KOf]
      refine' L2.funAt_mk KX G (fun _ _ _ _ _ _ => My.ar2 fun _ _ => rfl) ?a ?l ?c ?k
      case a | l | c | k => k_is
    have f_l_means_right : L2.FunAt (L2.KOf KX) mg "_law_means_right" ["_law_pen_here", "_law_one", "_law_other"] My.s_l_means_right := by
      dsimp only [L2.KOf]
      refine' L2.funAt_mk KX G (fun _ _ _ _ _ _ => My.ar3 fun _ _ _ => rfl) ?a ?l ?c ?k
      case a | l | c | k => k_is
    have h_MOST_LOADS : ∃ tk : Tok, mg "MOST_LOADS" = some (.int 60 tk) := by
      refine' My.mr_MOST_LOADS KX G ?a
      (case a => first | k_is | exact rfl)
    obtain ⟨tk_MOST_LOADS, h_MOST_LOADS⟩ := h_MOST_LOADS
    refine' My.all_mk KX G hmg T ⟨f_measure, f_plus, f_minus, f_times, f_parted, f_weighed, f_ask_as_many, f_drawn, f_rows_up_to, f_unlike, f_sets, f_mixed, f_fuller_at, f_parting, f_mean_of, f_first_mean, f_falling, f_put_at, f_alone, f_gathered, f_weights_of, f_spread_of, f_come, f_ask_boxes, f_after, f_put, f_l_pen, f_l_take, f_l_share, f_l_weights, f_l_rule, f_l_behind, f_l_is_more, f_l_drawn_right, f_l_mixed_right, f_l_parts_right, f_l_load, f_l_means_right⟩ h_MOST_LOADS ?a3 ?l3 ?c3 ?k3
    (case a3 => k_is); (case l3 => k_is); (case c3 => k_is); (case k3 => k_is)
