import PyProof.Rows.All
import KE.KRevIter
import PyProof.FactsAll.range_2
import Wide.All
import OpenK.AllK
import Wide.FinOn
import PyProof.EqAt
import PyProof.EqKinds
import PyProof.NeKinds
import PyProof.TupleCall
import PyProof.CompFree
import PyProof.CompMap
import PyProof.ReprRoads
import PyProof.CallFns
import PyProof.ReprBulk
import PyProof.CompUse
import KE.KRevSl
import PyProof.Rows.SetFrom
import PyProof.AttrMissSeq
import KE.KDictOf
import PyProof.DictUpdate
import PyProof.ListRange
import PyProof.Rows.SumAny
import PyProof.Rows.SortRev
import PyProof.Rows.CallKwBuiltin
import PyProof.ListMulAny
import PyProof.TupleOps
import PyProof.ZipIter
import PyProof.Draws
import PyProof.TupleIter
import PyProof.EnumMake
import PyProof.DictCompW
import PyProof.DictItems
import PyProof.DictItemsLoops
import PyProof.ExcAttrAll.ValueError
import KE.KTryMore
import KE.KLam
import KE.KTupSum
import KE.KMinKey
import PyProof.FactsAll.tuple_0
import PyProof.FactsAll.tuple_2
import PyProof.FactsAll.tuple_3
import KE.KSortTup
import PyProof.DictValues
import PyProof.DictWalks
import PyProof.SumWalkG
import PyProof.CollectWalk
import PyProof.FactsAll.dict_values
import KE.KDictList
import KE.KItemsList
import PyProof.TupleKey
import PyProof.DictDisplay
import PyProof.DictTable
import PyProof.ReprDict
import PyProof.ReprNest
import PyProof.ReprReads
import PySem.Challenge.RW_emptierbox_k51_stands_that_are_refused
set_option Elab.async false
set_option linter.all false
set_option maxRecDepth 100000
set_option maxHeartbeats 0
local macro_rules | `(tactic| ext) => `(tactic| first|rfl|decide|exact .inl rfl|exact .inr rfl|(intros; rfl))
local macro_rules | `(⋯) => `((by ext))
namespace L2
open PySem PySem.W PyProof.Rows
theorem headK {r:OpenRow}{q:Program}{H:Hook}{N:Nat}{d:DefRec}
  (top:LeftO r.prog q [] (fun s=>xlAt q [] s && recOk r.toRowW.records s) H.obs H.val N)
  (at0:defOf q r.name=some (d,[])) (here:r.prog.theDef r.name=some (d.params,d.body,d.scope)) (kwd:kwWritten? d.params.kwonlyargs d.params.kw_defaults=some [])
  (writ:(!r.writes || r.records.isEmpty)=true) (said:r.wellSaid=true) (looks:(chainsOk q && opensWell r.prog && (frees r.toRowW && r.within.isEmpty))=true) (bare:r.prog.bare)
  (prom:r.toRowW.promised) (walk:WalkO q [] (XL q []) H.says r.toRowW d [] fun f vs=>PySem.call f vs):r.Holds :=
 holds_open top H.of H.keeps (fun s e=>xl_of s (Bool.and_eq_true_iff.mp e).1) XL.keeps at0 here kwd (fun s e=>recFacts_of (Bool.and_eq_true_iff.mp e).2) writ said looks bare prom walk
end L2
def My.topv (i:Nat):PySem.Stmt:=PySem.Challenge.pw_emptierbox_k51_stands_that_are_refused.main.body.getD i (.Pass ⟨0,0,0,0⟩)
noncomputable def My.qv:PySem.Program:={ PySem.Challenge.pw_emptierbox_k51_stands_that_are_refused with main:={ PySem.Challenge.pw_emptierbox_k51_stands_that_are_refused.main with body:=[My.topv 1,My.topv 2,My.topv 3,My.topv 4,My.topv 5,My.topv 6,My.topv 7,My.topv 8,My.topv 9,My.topv 10,My.topv 12,My.topv 13,My.topv 14,My.topv 15,My.topv 16,My.topv 17,My.topv 19,My.topv 20,My.topv 21,My.topv 23,My.topv 24,My.topv 25,My.topv 26,My.topv 27,My.topv 28,My.topv 29,My.topv 30,My.topv 32,My.topv 33,My.topv 34,My.topv 35,My.topv 36,My.topv 37,My.topv 38,My.topv 39,My.topv 40,My.topv 41,My.topv 42,My.topv 43,My.topv 44,My.topv 45] } }
section
open PySem PySem.W PyProof.Rows
local macro_rules | `(tactic| o_head $H)=>do
 let hw:=Lean.mkIdent `hw
 let hc:=Lean.mkIdent `hc
 `(tactic| (refine L2.headK (q:=My.qv) (H:=$H) (N:=9000) ?_ rfl rfl rfl rfl (by assumption) (by decide +kernel) ⟨rfl,rfl,rfl,rfl,rfl,by decide +kernel⟩ ?$hw ?$hc; (focus intro w; kernel_rfl)))
open_top My.hd for PySem.Challenge.rw_emptierbox_k51_stands_that_are_refused
end
namespace MA
def gI (a b:Int):Int:=(Int.gcd a b:Int)
theorem qfi (a b:Int):0≤gI a b:=Int.natCast_nonneg _
theorem qny (a b:Int):gI (if a < 0 then -a else a) (if b < 0 then -b else b)=gI a b:=by
 unfold gI Int.gcd
 congr 2 <;> (split <;> omega)
theorem qi9 {a b:Int}(ha:0≤a):gI b (a % b)=gI a b:=by
 unfold gI
 congr 1
 rw [Int.gcd_comm a b]
 unfold Int.gcd
 have e:(a % b).natAbs=a.natAbs % b.natAbs:=by
  rw [Int.natAbs_emod_of_nonneg ha]
 rw [e,Nat.gcd_comm b.natAbs (a.natAbs % b.natAbs),<- Nat.gcd_rec]
theorem qi8 {a:Int}(ha:0≤a):gI a 0=a:=by
 unfold gI
 rw [Int.gcd_zero_right]
 omega
theorem qaM {a b:Int}(hb:b≠0):0 < gI a b:=by
 have h:Int.gcd a b≠0:=fun h=>hb (Int.gcd_eq_zero_iff.mp h).2
 unfold gI; omega
theorem qf5 {a b:Int}(hb:a≠0):0 < gI a b:=by
 have h:Int.gcd a b≠0:=fun h=>hb (Int.gcd_eq_zero_iff.mp h).1
 unfold gI; omega
theorem qb4 (a b:Int):gI a b ∣ a:=Int.gcd_dvd_left ..
theorem qbI (a b:Int):gI a b ∣ b:=Int.gcd_dvd_right ..
theorem qmo (a b:Int):gI a b=gI b a:=by unfold gI; rw [Int.gcd_comm]
theorem qbu {t b:Int}(hb:0 < b):t / gI t b=(Rat.divInt t b).num/\b / gI t b=((Rat.divInt t b).den:Int):=by
 rw [Rat.num_divInt,Rat.den_divInt,if_neg (by omega),Int.sign_eq_one_of_pos hb,Int.one_mul,Int.gcd_comm b t]
 refine ⟨rfl,?_⟩
 unfold gI
 rw [Int.natCast_ediv]
 congr 1
 omega
theorem qlM (q r:Rat)(c top rest:Int)(hc:c=gI q.den r.den)(ht:top=q.num * ((r.den:Int) / c) + r.num * ((q.den:Int) / c))(hr:rest=gI top c) :
  top / rest=(q + r).num/\((q.den:Int) / c) * ((r.den:Int) / rest)=((q + r).den:Int):=by
 have hd:0 < q.den:=Nat.pos_of_ne_zero q.den_nz
 have he:0 < r.den:=Nat.pos_of_ne_zero r.den_nz
 have cg:c=((q.den.gcd r.den:Nat):Int):=by rw [hc]; rfl
 have rg:rest=((top.natAbs.gcd (q.den.gcd r.den):Nat):Int):=by
  rw [hr,cg]; rfl
 have tt:top=q.num * ((r.den / q.den.gcd r.den:Nat):Int) + r.num * ((q.den / q.den.gcd r.den:Nat):Int):=by
  rw [ht,cg,Int.natCast_ediv,Int.natCast_ediv]
 have key:(q + r).num=top / ((top.natAbs.gcd (q.den.gcd r.den):Nat):Int)/\(q + r).den=(q.den / q.den.gcd r.den) * r.den / top.natAbs.gcd (q.den.gcd r.den):=by
  rw [tt]
  have e:(q + r)=Rat.add q r:=rfl
  rw [e]
  delta Rat.add
  dsimp only
  split
  ·rename_i h
   rw [h]
   simp
  ·simp only [Rat.maybeNormalize_eq,Int.divExact_eq_ediv,and_self]
 rw [key.1,key.2,rg]
 refine ⟨rfl,?_⟩
 have d1:top.natAbs.gcd (q.den.gcd r.den) ∣ r.den:=Nat.dvd_trans (Nat.gcd_dvd_right ..) (Nat.gcd_dvd_right ..)
 rw [Nat.mul_div_assoc _ d1,Int.natCast_mul,Int.natCast_ediv,Int.natCast_ediv,cg]
theorem den_pos (q:Rat):(0:Int) < q.den:=by have:=Nat.pos_of_ne_zero q.den_nz; omega
theorem qh0 (q r:Rat):q.num / gI q.num r.den * (r.num / gI r.num q.den)=(q * r).num/\(q.den:Int) / gI r.num q.den * ((r.den:Int) / gI q.num r.den)=((q * r).den:Int):=by
 have e:(q * r)=Rat.mul q r:=rfl
 have e1:gI q.num r.den=((q.num.natAbs.gcd r.den:Nat):Int):=rfl
 have e2:gI r.num q.den=((r.num.natAbs.gcd q.den:Nat):Int):=rfl
 rw [e,e1,e2]
 delta Rat.mul
 dsimp only
 simp only [Int.divExact_eq_ediv,Nat.divExact_eq_div,Int.natCast_mul,Int.natCast_ediv,and_self]
end MA
namespace L2
open PySem PySem.Spec PyProof.Rows
abbrev Key:=Sum Int Str
def qf3:Key->Value->Bool
 | .inl k,v=>Value.isInt k v
 | .inr x,v=>Value.isStrOf x v
def keyH (w:World):Key->Int
 | .inl k=>hashInt k
 | .inr x=>hashStr w x
theorem qaD:∀ {k:Key} {v:Value},qf3 k v=true->(∃ i t,k=Sum.inl i/\v=Value.int i t)\/(∃ x t,k=Sum.inr x/\v=Value.str x t)
 | .inl i,v,h=>by
  obtain ⟨t,e⟩:=Value.isInt_shape (k:=i) (v:=v) h
  exact .inl ⟨i,t,rfl,e⟩
 | .inr x,v,h=>by
  obtain ⟨t,e⟩:=Value.isStrOf_shape (x:=x) (v:=v) h
  exact .inr ⟨x,t,rfl,e⟩
theorem qiV (i:Int)(t:Tok):qf3 (.inl i) (.int i t)=true:=by simp [qf3,Value.isInt]
theorem qiU (x:Str)(t:Tok):qf3 (.inr x) (.str x t)=true:=by simp [qf3,Value.isStrOf]
theorem qnp (a b:Int):decide ((Sum.inl a:Key)=Sum.inl b)=(a == b):=by
 by_cases e:a=b
 ·subst e; simp
 ·have h:¬ (Sum.inl a:Key)=Sum.inl b:=fun q=>e (Sum.inl.inj q)
  rw [decide_eq_false h]
  exact (beq_eq_false_iff_ne.mpr e).symm
theorem qnm (a b:Str):decide ((Sum.inr a:Key)=Sum.inr b)=decide (a=b):=by
 by_cases e:a=b
 ·subst e; simp
 ·have h:¬ (Sum.inr a:Key)=Sum.inr b:=fun q=>e (Sum.inr.inj q)
  rw [decide_eq_false h,decide_eq_false e]
theorem qno (a:Int)(b:Str):decide ((Sum.inl a:Key)=Sum.inr b)=false:=decide_eq_false (fun q=>nomatch q)
theorem qnn (a:Str)(b:Int):decide ((Sum.inr a:Key)=Sum.inl b)=false:=decide_eq_false (fun q=>nomatch q)
def qau (prog:Program)(w:World):PySem.KeyKind prog w Key where
 is:=qf3
 hash:=keyH w
 inj:=fun v a b ha hb=>by
  rcases qaD ha with ⟨i,t,rfl,rfl⟩ | ⟨x,t,rfl,rfl⟩
  ·rcases qaD hb with ⟨j,u,rfl,e⟩ | ⟨y,u,rfl,e⟩
   ·injection e with e1 _; rw [e1]
   ·exact nomatch e
  ·rcases qaD hb with ⟨j,u,rfl,e⟩ | ⟨y,u,rfl,e⟩
   ·exact nomatch e
   ·injection e with e1 _; rw [e1]
 byValue:=fun k v h=>by
  rcases qaD h with ⟨i,t,rfl,rfl⟩ | ⟨x,t,rfl,rfl⟩ <;> rfl
 pyHash:=fun hv h=>by
  rcases qaD hv with ⟨i,t,rfl,rfl⟩ | ⟨x,t,rfl,rfl⟩
  ·exact wpAny_pyHash_int h
  ·exact wpAny_pyHash_str h
 eqBool:=fun hu hv h=>by
  rcases qaD hu with ⟨i,t,rfl,rfl⟩ | ⟨x,t,rfl,rfl⟩
  ·rcases qaD hv with ⟨j,u,rfl,rfl⟩ | ⟨y,u,rfl,rfl⟩
   ·rw [qnp] at h; exact wpAny_eqBool_int h
   ·rw [qno] at h; exact SeqAt.EqAt.int_str i t y u _ _ _ _ h
  ·rcases qaD hv with ⟨j,u,rfl,rfl⟩ | ⟨y,u,rfl,rfl⟩
   ·rw [qnn] at h; exact SeqAt.EqAt.str_int x t j u _ _ _ _ h
   ·rw [qnm] at h; exact wpAny_eqBool_str h
 «strs»:=fun k x t v h=>by
  rcases qaD h with ⟨i,u,rfl,e⟩ | ⟨y,u,rfl,e⟩
  ·exact nomatch e
  ·injection e with e1 _
   subst e1
   cases v <;> rfl
theorem qfZ (prog:Program)(w:World)(i:Int)(t:Tok):(qau prog w).is (.inl i) (.int i t)=true:=qiV i t
theorem qfY (prog:Program)(w:World)(x:Str)(t:Tok):(qau prog w).is (.inr x) (.str x t)=true:=qiU x t
inductive V where
 | non | bl (b:Bool) | int (i:Int) | str (x:Str) | byt (b:Array UInt8) | flt (b:UInt64) | ref (a:Addr) | ty (n:String)
 deriving DecidableEq
def RelV:V->Value->Prop
 | .non,u=>u=Value.none
 | .bl b,u=>u=Value.bool b
 | .int i,u=>∃ t,u=Value.int i t
 | .str x,u=>∃ t,u=Value.str x t
 | .byt b,u=>∃ t,u=Value.bytes b t
 | .flt b,u=>∃ t,u=Value.float b t
 | .ref a,u=>u=Value.ref a
 | .ty n,u=>u=Value.type n
abbrev Vals:List V->List Value->Prop:=Paired RelV
theorem Vals.length {xs:List V}{us:List Value}(r:Vals xs us):xs.length=us.length:=Paired.length r
theorem Vals.get:∀ {xs:List V} {us:List Value} {i:Nat} {x:V},Vals xs us->xs[i]?=some x->∃ u,us[i]?=some u/\RelV x u
 | _,_,_,_,.nil,e=>by simp at e
 | _,_,0,_,.cons r _,e=>by simp at e; subst e; exact ⟨_,rfl,r⟩
 | _,_,i + 1,x,.cons _ t,e=>by
  obtain ⟨u,h1,h2⟩:=Vals.get (i:=i) (x:=x) t (by simpa using e)
  exact ⟨u,by simpa using h1,h2⟩
theorem Vals.set {x:V}{u:Value}(r:RelV x u):∀ {xs:List V} {us:List Value} (i:Nat),Vals xs us->Vals (xs.set i x) (us.set i u)
 | _,_,_,.nil => .nil
 | _,_,0,.cons _ t => .cons r t
 | _,_,i + 1,.cons q t => .cons q (Vals.set r i t)
theorem Vals.append:∀ {xs ys:List V} {us ws:List Value},Vals xs us->Vals ys ws->Vals (xs ++ ys) (us ++ ws)
 | _,_,_,_,.nil,s=>s
 | _,_,_,_,.cons r t,s => .cons r (Vals.append t s)
theorem Vals.take:∀ {xs:List V} {us:List Value} (n:Nat),Vals xs us->Vals (xs.take n) (us.take n)
 | _,_,0,_ => .nil
 | _,_,_ + 1,.nil => .nil
 | _,_,n + 1,.cons r t => .cons r (Vals.take n t)
theorem Vals.drop:∀ {xs:List V} {us:List Value} (n:Nat),Vals xs us->Vals (xs.drop n) (us.drop n)
 | _,_,0,r=>r
 | _,_,_ + 1,.nil => .nil
 | _,_,n + 1,.cons _ t=>Vals.drop n t
def RelO:Option V->Option Value->Prop
 | some v,some u=>RelV v u
 | none,none=>True
 | _,_=>False
def KV {κ:Type}:List (κ × V)->List (κ × Value)->Prop:=Paired fun (p:κ × V) (q:κ × Value)=>p.1=q.1/\RelV p.2 q.2
def kV:Key->V
 | .inl i => .int i
 | .inr x => .str x
inductive HO where
 | lst (xs:List V)
 | tup (xs:List V)
 | dK (kvs:List (Key × V)) | dT (kvs:List (List Key × V))
 | set (S:Int->Bool) (n:Nat)
 | ins (C dx:Addr) (fs:List (Str × V))
 | own (x:Addr)
 | xd (fs:List (Str × V))
 | met (f x:Addr)
 | rng (lo hi:Int)
 | frz (o:Obj) (u:HO)
 | tbl (ps:Array Value)
 | tab (q:Str)
 | ext (φ:Heap->Prop)
abbrev Hp:=Addr->Option HO
def upd (H:Hp)(a:Addr)(o:HO):Hp:=fun b=>if b=a then some o else H b
theorem uS {H:Hp}{a:Addr}{o:HO}:upd H a o a=some o:=by unfold upd; rw [if_pos rfl]
theorem uE {H:Hp}{a b:Addr}{o:HO}(h:b≠a):upd H a o b=H b:=by unfold upd; rw [if_neg h]
theorem qd5 {H:Hp}{a:Addr}{o u:HO}:upd (upd H a o) a u=upd H a u:=by
 funext b; unfold upd; split <;> rfl
theorem qb2 {H:Hp}{a b:Addr}{o u:HO}(h:H a=some o)(h':H b=some u)(d:o≠u):a≠b:=by
 intro e; subst e; rw [h] at h'; exact d (Option.some.inj h')
theorem qab {H:Hp}{a b:Addr}{o:HO}(h:H a=some o)(h':H b=none):a≠b:=by
 intro e; subst e; rw [h] at h'; cases h'
def qbM (h:Heap)(a:Addr)(items:Array Value):Prop:=∃ o,h.get? a=some o/\o.cls = .type "tuple" /\ ∃ n,o.data = .seq items n/\o.dict=none
theorem qbM.tup {h:Heap}{a:Addr}{items:Array Value}(x:qbM h a items):PyProof.Rows.IsTup h a items:=let ⟨o,e,c,n,d,_⟩:=x; ⟨o,e,c,n,d⟩
theorem qbM.new (h:Heap)(items:Array Value):qbM (h.push { cls := .type "tuple",data := .seq items }) h.objs.size items:=⟨_,Heap.get?_push_size _ rfl,rfl,_,rfl,rfl⟩
theorem qbM.lt {h:Heap}{a:Addr}{items:Array Value}(x:qbM h a items):a < h.objs.size:=let ⟨_,e,_⟩:=x; Heap.lt_size e
section
variable (P:Program)(w:World)
def qaR (H:Hp)(h:Heap)(a:Addr):HO->Prop
 | .lst xs=>xs.length≤sizeLine/\∃ (its:List Value) (n:Nat),Vals xs its/\h.get? a=some { cls := .type "list",data := .seq its.toArray n }
 | .tup xs=>xs.length≤sizeLine/\∃ its:List Value,Vals xs its/\qbM h a its.toArray
 | .dK kvs=>kvs.length≤sizeLine/\(a == sysModules)=false/\∃ vs,KV kvs vs/\h.DictOf (qau P w) a vs
 | .dT kvs=>kvs.length≤sizeLine/\(a == sysModules)=false/\∃ xs:List (List Key × Addr × Value),
   Paired (fun (p:List Key × V) (q:List Key × Addr × Value)=>p.1=q.1/\H q.2.1=some (.tup (p.1.map kV))/\RelV p.2 q.2.2) kvs xs /\
   ∃ o es ep,h.get? a=some o/\o.ExactDict/\o.data = .dict es ep/\es.toList=xs.map (entryOfKey (tupleKind (qau P w)))/\(xs.map (·.1)).Nodup
 | .set S n=>h.SetOf (intKind P w) a S n
 | .ins C dx fs=>H dx=some (.own a)/\fs.length≤1000/\dx≠a/\h.get? a=some (PySem.W.instObj C dx) /\
   ∃ mA,h.Ns1 dx mA/\(∀ f,RelO (fs.lookup f) (mA f))/\PySem.Within mA (fs.map (·.1))
 | .own _=>∃ o,h.get? a=some o
 | .xd fs=>∃ mA,h.Ns1 a mA/\∀ f,RelO (fs.lookup f) (mA f)
 | .rng lo hi=>∃ t u v,h.get? a=some { cls := .type "range",data := .fields #[.int lo t,.int hi u,.int 1 v] }
 | .frz o u=>h.get? a=some o/\qaR H h a u
 | .tbl ps=>h.get? a=some { cls := .none,data := .fields ps }
 | .tab q=>∃ ps:Array Value,h.get? a=some { cls := .none,data := .fields ps }/\TriplesOk ps.toList/\∀ pos cv,codeAmong pos ps.toList=some cv ->
   ∃ c oc vs t,cv = .ref c/\H c=some (.frz oc (.own 0))/\oc.data = .fields vs/\vs[1]?=some (.str q t)
 | .met f x=>h.get? a=some (PySem.W.methodObj (.ref f) (.ref x))
 | .ext φ=>φ h/\(∃ o,h.get? a=some o)/\∀ h1 h2:Heap,φ h1->(∀ o,h1.get? a=some o->h2.get? a=some o)->φ h2
def HOk (H:Hp)(h:Heap):Prop:=∀ a o,H a=some o->qaR P w H h a o
end
section
variable {P:Program}{w:World}{H H':Hp}{h h':Heap}{a:Addr}{o:HO}
theorem qaR.lt (x:qaR P w H h a o):a < h.objs.size:=by
 cases o with
 | lst xs=>obtain ⟨_,_,_,_,e⟩:=x; exact Heap.lt_size e
 | tup xs=>obtain ⟨_,_,_,p⟩:=x; exact p.lt
 | dK kvs=>obtain ⟨_,_,_,_,o,_,_,e,_⟩:=x; exact Heap.lt_size e
 | dT kvs=>obtain ⟨_,_,_,_,o,_,_,e,_⟩:=x; exact Heap.lt_size e
 | set S n=>obtain ⟨o,_,_,_,e,_⟩:=x; exact Heap.lt_size e
 | ins C dx fs=>obtain ⟨_,_,_,e,_⟩:=x; exact Heap.lt_size e
 | own y=>obtain ⟨_,e⟩:=x; exact Heap.lt_size e
 | xd fs=>obtain ⟨_,⟨_,_,_,e,_⟩,_⟩:=x; exact Heap.lt_size e
 | rng lo hi=>obtain ⟨_,_,_,e⟩:=x; exact Heap.lt_size e
 | frz ob u=>obtain ⟨e,_⟩:=x; exact Heap.lt_size e
 | tbl ps=>exact Heap.lt_size (show h.get? a=some _ from x)
 | tab q=>obtain ⟨_,e,_⟩:=x; exact Heap.lt_size e
 | met f y=>exact Heap.lt_size (show h.get? a=some _ from x)
 | ext φ=>obtain ⟨_,⟨_,e⟩,_⟩:=x; exact Heap.lt_size e
theorem Paired.mapP {α β:Type}{F G:α->β->Prop}:∀ {l₁:List α} {l₂:List β},Paired F l₁ l₂->(∀ a b,F a b->G a b)->Paired G l₁ l₂
 | _,_,.nil,_ => .nil
 | _,_,.cons r t,f => .cons (f _ _ r) (Paired.mapP t f)
theorem Paired.imp' {α β:Type}{F G:α->β->Prop}(f:∀ a b,F a b->G a b){l₁:List α}{l₂:List β}(r:Paired F l₁ l₂):Paired G l₁ l₂:=Paired.mapP r f
theorem qaR.stay (x:qaR P w H h a o)(k:∀ b u,(b=a\/H b=some (.own a))->h.get? b=some u->h'.get? b=some u)
  (ho:∀ b,H b=some (.own a)->H' b=some (.own a)) (ht:∀ b xs,H b=some (.tup xs)->H' b=some (.tup xs)) (hz:∀ b ob,H b=some (.frz ob (.own 0))->H' b=some (.frz ob (.own 0)):=by exact fun _ _ q=>q):qaR P w H' h' a o:=by
 induction o with
 | lst xs=>obtain ⟨z,its,n,r,e⟩:=x; exact ⟨z,its,n,r,k _ _ (.inl rfl) e⟩
 | tup xs=>obtain ⟨z,its,r,ob,e,c⟩:=x; exact ⟨z,its,r,ob,k _ _ (.inl rfl) e,c⟩
 | dK kvs=>obtain ⟨z,y,vs,r,ob,es,ep,e,c⟩:=x; exact ⟨z,y,vs,r,ob,es,ep,k _ _ (.inl rfl) e,c⟩
 | dT kvs =>
  obtain ⟨z,y,xs,r,ob,es,ep,e,c⟩:=x
  exact ⟨z,y,xs,Paired.mapP r fun p q z=>⟨z.1,ht _ _ z.2.1,z.2.2⟩,ob,es,ep,k _ _ (.inl rfl) e,c⟩
 | set S n=>obtain ⟨ob,es,ep,t,e,c⟩:=x; exact ⟨ob,es,ep,t,k _ _ (.inl rfl) e,c⟩
 | ins C dx fs =>
  obtain ⟨d,z,ne,e,mA,⟨od,es,ep,e2,c⟩,r⟩:=x
  exact ⟨ho _ d,z,ne,k _ _ (.inl rfl) e,mA,⟨od,es,ep,k _ _ (.inr d) e2,c⟩,r⟩
 | own y=>obtain ⟨ob,e⟩:=x; exact ⟨ob,k _ _ (.inl rfl) e⟩
 | xd fs=>obtain ⟨mA,⟨od,es,ep,e,c⟩,r⟩:=x; exact ⟨mA,⟨od,es,ep,k _ _ (.inl rfl) e,c⟩,r⟩
 | rng lo hi=>obtain ⟨t,u,v,e⟩:=x; exact ⟨t,u,v,k _ _ (.inl rfl) e⟩
 | frz ob u ih=>obtain ⟨e,q⟩:=x; exact ⟨k _ _ (.inl rfl) e,ih q⟩
 | tab q =>
  obtain ⟨ps,e,tr,cs⟩:=x
  refine ⟨ps,k a _ (.inl rfl) e,tr,fun pos cv hc=>?_⟩
  obtain ⟨c,oc,vs,t,h1,h2,h3⟩:=cs pos cv hc
  exact ⟨c,oc,vs,t,h1,hz c oc h2,h3⟩
 | tbl ps =>
  have e:h.get? a=some { cls := .none,data := .fields ps }:=x
  show h'.get? a=some { cls := .none,data := .fields ps }
  exact k a _ (.inl rfl) e
 | met f y =>
  have e:h.get? a=some (PySem.W.methodObj (.ref f) (.ref y)):=x
  show h'.get? a=some (PySem.W.methodObj (.ref f) (.ref y))
  exact k a _ (.inl rfl) e
 | ext φ=>obtain ⟨p,⟨o,e⟩,st⟩:=x; exact ⟨st _ _ p fun o q=>k _ _ (.inl rfl) q,⟨o,k _ _ (.inl rfl) e⟩,st⟩
theorem HOk.lt (x:HOk P w H h)(e:H a=some o):a < h.objs.size:=(x a o e).lt
theorem HOk.fresh (x:HOk P w H h)(e:h.objs.size≤a):H a=none:=by
 cases q:H a with
 | none=>rfl
 | some u=>exact absurd (Nat.lt_of_lt_of_le (x.lt q) e) (Nat.lt_irrefl _)
theorem HOk.kept (x:HOk P w H h)(k:∀ b u,h.get? b=some u->h'.get? b=some u):HOk P w H h':=fun a o e =>
 (x a o e).stay (fun b u _ q=>k b u q) (fun _ q=>q) fun _ _ q=>q
theorem HOk.laid (x:HOk P w H h)(k:∀ b u,h.get? b=some u->h'.get? b=some u)(hp:h.objs.size≤a)(new:qaR P w (upd H a o) h' a o):HOk P w (upd H a o) h':=fun b u e=>by
 have hn:=x.fresh hp
 by_cases hb:b=a
 ·subst hb; rw [uS] at e; cases e; exact new
 ·rw [uE hb] at e
  exact (x b u e).stay (fun c v _ q=>k c v q) (fun c q=>by rw [uE (qab q hn)]; exact q) (fun c xs q=>by rw [uE (qab q hn)]; exact q) fun c ob q=>by rw [uE (qab q hn)]; exact q
end
def Rd (H:Hp)(a:Addr)(u:HO):Prop:=H a=some u\/∃ o,H a=some (.frz o u)
theorem Rd.ok {P:Program}{w:World}{H:Hp}{h:Heap}{a:Addr}{u:HO}(r:Rd H a u)(x:HOk P w H h):qaR P w H h a u:=by
 rcases r with r | ⟨o,r⟩
 ·exact x a u r
 ·obtain ⟨_,q⟩:=x a _ r
  exact q
def Mut:Option HO->Prop
 | some (.lst _)=>True
 | some (.dK _)=>True
 | some (.dT _)=>True
 | some (.set _ _)=>True
 | some (.ins _ _ _)=>True
 | some (.ext _)=>True
 | some (.tab _)=>True
 | _=>False
section
variable {P:Program}{w:World}{H:Hp}{h h':Heap}{x e:Addr}{o':HO}
theorem HOk.write (ok:HOk P w H h)(mu:Mut (H x))(he:e=x\/H e=some (.own x))(k:∀ b u,b≠e->h.get? b=some u->h'.get? b=some u)(heo:∃ u,h'.get? e=some u)
  (new:qaR P w (upd H x o') h' x o'):HOk P w (upd H x o') h':=fun b u q=>by
 have nown:∀ c y,H c=some (.own y)->c≠x:=fun c y r z=>by subst z; rw [r] at mu; exact mu
 have ntup:∀ c xs,H c=some (.tup xs)->c≠x:=fun c xs r z=>by subst z; rw [r] at mu; exact mu
 by_cases hb:b=x
 ·subst hb; rw [uS] at q; cases q; exact new
 ·rw [uE hb] at q
  by_cases hbe:b=e
  ·have q':H b=some (.own x):=by
    rcases he with z | z
    ·exact absurd (hbe.trans z) hb
    ·rw [hbe]; exact z
   rw [q] at q'; cases q'
   obtain ⟨v,hv⟩:=heo
   exact ⟨v,by rw [hbe]; exact hv⟩
  ·refine (ok b u q).stay (fun c v hc r=>k c v ?_ r) (fun c r=>by rw [uE (nown c b r)]; exact r) (fun c xs r=>by rw [uE (ntup c xs r)]; exact r) (fun c ob r=>by rw [uE (fun z=>by subst z; rw [r] at mu; exact mu)]; exact r)
   rcases hc with rfl | hc
   ·exact hbe
   ·rintro rfl
    rcases he with z | z
    ·exact nown c b hc z
    ·rw [hc] at z; cases z; exact hb rfl
end
structure Un (fs ex:List Addr)(H H':Hp)(h h':Heap):Prop where
 keep:∀ b o,h.get? b=some o->H b=none->b ∉ fs->b ∉ ex->h'.get? b=some o
 slot:∀ b o,h.get? b=some o->H b=none->b∈fs->b ∉ ex->∃ sl,h'.get? b=some { o with slots:=sl }
 free:∀ b o,h.get? b=some o->H b=none->b ∉ ex->H' b=none
 there:∀ b o,h.get? b=some o->b ∉ ex->∃ o',h'.get? b=some o'
 tups:∀ b xs,H b=some (.tup xs)->H' b=some (.tup xs)
 frzs:∀ b o u,H b=some (.frz o u)->H' b=some (.frz o u)
 tbls:∀ b ps,H b=some (.tbl ps)->∃ more,H' b=some (.tbl (ps ++ more))
section
variable {fs fs' ex ex':List Addr}{H H1 H2:Hp}{h h1 h2 h':Heap}{a x e:Addr}{o:HO}
theorem Un.any (u:Un fs ex H H1 h h1){b:Addr}{ob:Obj}(q:h.get? b=some ob)(n:H b=none)(hx:b ∉ ex):∃ sl,h1.get? b=some { ob with slots:=sl }:=by
 by_cases hb:b∈fs
 ·exact u.slot b ob q n hb hx
 ·exact ⟨ob.slots,u.keep b ob q n hb hx⟩
theorem Un.kept (k:∀ b u,h.get? b=some u->h'.get? b=some u):Un fs ex H H h h' :=
 ⟨fun b ob q _ _ _=>k b ob q,fun b ob q _ _ _=>⟨ob.slots,k b ob q⟩,fun _ _ _ n _=>n,fun b ob q _=>⟨ob,k b ob q⟩,fun _ _ q=>q,fun _ _ _ q=>q,fun _ ps q=>⟨#[],by rw [q]; simp⟩⟩
theorem Un.refl:Un fs ex H H h h:=Un.kept fun _ _ q=>q
theorem Un.laid (k:∀ b u,h.get? b=some u->h'.get? b=some u)(hp:h.objs.size≤a)(hn:H a=none):Un fs ex H (upd H a o) h h' where
 keep:=fun b u q _ _ _=>k b u q
 slot:=fun b u q _ _ _=>⟨u.slots,k b u q⟩
 free:=fun b u q n _=>by rw [uE (Nat.ne_of_lt (Nat.lt_of_lt_of_le (Heap.lt_size q) hp))]; exact n
 there:=fun b u q _=>⟨u,k b u q⟩
 tups:=fun b xs q=>by rw [uE (qab q hn)]; exact q
 frzs:=fun b u xs q=>by rw [uE (qab q hn)]; exact q
 tbls:=fun b ps q=>⟨#[],by rw [uE (qab q hn),q]; simp⟩
theorem Un.write (mu:Mut (H x))(he:e=x\/H e=some (.own x))(k:∀ b u,b≠e->h.get? b=some u->h'.get? b=some u)(heo:∃ u,h'.get? e=some u):Un fs ex H (upd H x o) h h':=by
 have hx:∀ b,H b=none->b≠x:=fun b n z=>by subst z; rw [n] at mu; exact mu
 have hb:∀ b,H b=none->b≠e:=fun b n z=>by
  subst z
  rcases he with r | r
  ·exact hx b n r
  ·rw [n] at r; cases r
 have hm:∀ b u,H b=some u->¬ Mut (some u)->b≠x:=fun b u q nm z=>by subst z; rw [q] at mu; exact nm mu
 refine ⟨fun b u q n _ _=>k b u (hb b n) q,fun b u q n _ _=>⟨u.slots,k b u (hb b n) q⟩,fun b u q n _=>by rw [uE (hx b n)]; exact n,fun b u q _=>?_,
  fun b xs q=>by rw [uE (hm b _ q fun z=>z)]; exact q,fun b u xs q=>by rw [uE (hm b _ q fun z=>z)]; exact q,fun b ps q=>⟨#[],by rw [uE (hm b _ q fun z=>z),q]; simp⟩⟩
 by_cases hbe:b=e
 ·subst hbe; exact heo
 ·exact ⟨u,k b u hbe q⟩
end
def trk (h:Heap)(H:Hp):List Addr:=(List.range h.objs.size).filter fun a=>(H a).isSome
def hidT (h:Heap)(H:Hp):Heap:=PySem.W.hideAll h (trk h H)
theorem qi1 (h:Heap)(H:Hp):(hidT h H).objs.size=h.objs.size:=PySem.W.hideAll_size _ _
theorem qcr {h:Heap}{H:Hp}{b:Addr}{o:Obj}(e:h.get? b=some o)(n:H b=none):(hidT h H).get? b=some o :=
 PySem.W.hideAll_get _ e fun hm=>by
  have q:(H b).isSome=true:=(List.mem_filter.mp hm).2
  rw [n] at q; simp at q
theorem ql4 {h:Heap}{H:Hp}{b:Addr}{o:Obj}(e:(hidT h H).get? b=some o):h.get? b=some o/\H b=none:=by
 have e':h.get? b=some o:=PySem.W.of_hideAll (trk h H) e
 refine ⟨e',?_⟩
 cases q:H b with
 | none=>rfl
 | some x =>
  have hm:b∈trk h H:=List.mem_filter.mpr ⟨List.mem_range.mpr (Heap.lt_size e'),by simp [q]⟩
  have z:(hidT h H).get? b=none:=PySem.W.hideAll_none (trk h H) hm
  rw [z] at e; cases e
structure Mod (K:PySem.W.Frag)(mg:Str->Option Value)(base:Heap):Prop where
 kin:K.In base
 glob:base.Ns mainGlobals mg
 blt:∃ mb,base.Ns builtinsNs mb/\∀ x:Str,x ≠ "__name__" -> mb x=bootBuiltins x
 nolimit:base.NoLimit
structure Cx where
 prog:Program
 w:World
 K:PySem.W.Frag
 mg:Str->Option Value
 base:Heap
 A:Around
 N:List Str
 s₀:Shared
 H₀:Hp
 env:Env
 outer:List Env
 stack:List Env
 ex:List Addr
 fn:Str->Bool
 calm:Bool
 pn:List (Addr × Obj)
 xe:Value->Shared->Prop
def frs (l:List Env):List Addr:=l.filterMap (·.frame)
abbrev Cx.fs (X:Cx):List Addr:=frs X.outer
def Vis (sc:Scope)(x:Str):Prop:=sc.names.lookup x=some .local\/sc.names.lookup x=some .cell\/sc.names.lookup x=some .free
def Loc (sc:Scope)(x:Str):Prop:=sc.names.lookup x=some .local\/sc.names.lookup x=some .cell
def Look (env:Env)(h:Heap)(m:Str->Option Value)(x:Str)(u:Value):Prop :=
 (env.kindOf x=some .local/\m x=some u)\/((env.kindOf x=some .cell\/env.kindOf x=some .free)/\∃ c,env.cells.lookup x=some c/\h.IsCell c (some u))
structure Cx.Ok (X:Cx):Prop where
 mod:Mod X.K X.mg X.base
 kind:X.env.scope.kind = .function
 glob:X.env.globals=mainGlobals
 blt:X.env.builtins=builtinsNs
 above:X.s₀.heap.objs.size≤X.env.locals
 inj:∀ x y c,X.env.cells.lookup x=some c->X.env.cells.lookup y=some c->x=y
 has:∀ x,(X.env.kindOf x=some .cell\/X.env.kindOf x=some .free)->∃ c,X.env.cells.lookup x=some c
 cab:∀ x c,X.fn x=true->X.env.cells.lookup x=some c->X.s₀.heap.objs.size≤c
 hd:X.calm=true->X.A.handled=none
 frames:X.A.frames=some X.stack
 stk:X.stack=X.outer\/(X.stack=X.env :: X.outer/\X.env.frame=some X.env.locals)
 exf:∀ b∈X.ex,b≠X.env.locals/\∀ x c,X.env.cells.lookup x=some c->c≠b
 bs:∀ b o,X.base.get? b=some o->X.s₀.heap.get? b=some o/\X.H₀ b=none
 bsz:X.base.objs.size≤X.s₀.heap.objs.size
 noex:∀ b o,X.base.get? b=some o->b ∉ X.ex
 exfs:∀ b∈X.ex,b ∉ X.fs
 funs:X.s₀.heap.FunFrames X.base X.outer
 frf:∀ b∈X.fs,X.H₀ b=none
structure Inv (X:Cx)(pins:List (Addr × Obj))(σ:List (Option V))(H:Hp)(s:Shared):Prop where
 ok:X.Ok
 os:s.os=X.s₀.os
 bare:AllBare s.gens
 base:Un X.fs X.ex X.H₀ H X.s₀.heap s.heap
 loc:∃ m,s.heap.Ns X.env.locals m/\∀ (i:Nat) (x:Str) (v:V),X.N[i]?=some x->σ[i]?=some (some v)->Vis X.env.scope x->∃ u,RelV v u/\Look X.env s.heap m x u
 cell:∀ x c,X.env.cells.lookup x=some c->∃ v,s.heap.IsCell c v
 free:H X.env.locals=none
 freeC:∀ x c,X.env.cells.lookup x=some c->H c=none
 pin:∀ p∈X.pn ++ pins,s.heap.get? p.1=some p.2/\H p.1=none/\p.1≠X.env.locals/\p.1 ∉ X.fs/\∀ v,p.2.data ≠ .cell v
 hok:HOk X.prog X.w H s.heap
 len:σ.length=X.N.length
section
variable {X:Cx}{pins:List (Addr × Obj)}{σ:List (Option V)}{H H':Hp}{s:Shared}{h':Heap}
theorem Cx.Ok.nofr (ok:X.Ok){b:Addr}{o:Obj}(e:X.base.get? b=some o):b ∉ X.fs:=fun hb=>by
 have:=(ok.funs.mem hb).1
 rw [e] at this; cases this
theorem Inv.bs (I:Inv X pins σ H s):∀ b o,X.base.get? b=some o->s.heap.get? b=some o/\H b=none:=fun b o e =>
 ⟨I.base.keep b o (I.ok.bs b o e).1 (I.ok.bs b o e).2 (I.ok.nofr e) (I.ok.noex b o e),I.base.free b o (I.ok.bs b o e).1 (I.ok.bs b o e).2 (I.ok.noex b o e)⟩
theorem Inv.bk (I:Inv X pins σ H s):∀ b o,X.base.get? b=some o->s.heap.get? b=some o:=fun b o e=>(I.bs b o e).1
theorem Inv.mod (I:Inv X pins σ H s):Mod X.K X.mg X.base:=I.ok.mod
theorem Inv.kIn (I:Inv X pins σ H s):X.K.In s.heap:=I.ok.mod.kin.keeps I.bk
theorem Inv.lt (I:Inv X pins σ H s):X.env.locals < s.heap.objs.size:=let ⟨_,hn,_⟩:=I.loc; hn.lt
theorem Inv.sz (I:Inv X pins σ H s):X.s₀.heap.objs.size≤s.heap.objs.size:=Nat.le_trans I.ok.above (Nat.le_of_lt I.lt)
theorem Inv.nofs (I:Inv X pins σ H s){a:Addr}(h:s.heap.objs.size≤a):a ∉ X.fs:=fun hb=>by
 obtain ⟨_,o,ho,_⟩:=I.ok.funs.mem hb
 exact absurd (Nat.lt_of_lt_of_le (Heap.lt_size ho) (Nat.le_trans I.sz h)) (Nat.lt_irrefl _)
theorem Inv.cne (I:Inv X pins σ H s):∀ x c,X.env.cells.lookup x=some c->c≠X.env.locals:=fun x c e z=>by
 obtain ⟨v,o,ho,hd⟩:=I.cell x c e
 obtain ⟨m,⟨o',es,ep,ho',hd',_⟩,_⟩:=I.loc
 rw [z,ho'] at ho; cases ho; rw [hd'] at hd; cases hd
theorem Inv.funs (I:Inv X pins σ H s):s.heap.FunFrames X.base X.outer:=by
 have all:∀ (l:List Env),(∀ b∈frs l,b∈X.fs)->X.s₀.heap.FunFrames X.base l->s.heap.FunFrames X.base l:=by
  intro l
  induction l with
  | nil=>intro _ _; trivial
  | cons env r ih =>
   intro hs hl
   obtain ⟨hk,⟨L,o,hf,hn,ho,hd⟩,hr⟩:=hl
   have hL:L∈X.fs:=hs L (by unfold frs; rw [List.filterMap_cons,hf]; exact List.mem_cons_self)
   obtain ⟨sl,e⟩:=I.base.slot L o ho (I.ok.frf L hL) hL fun z=>I.ok.exfs L z hL
   exact ⟨hk,⟨L,_,hf,hn,e,hd⟩,ih (fun b hb=>hs b (by unfold frs; rw [List.filterMap_cons,hf]; exact List.mem_cons_of_mem _ hb)) hr⟩
 exact all X.outer (fun _ hb=>hb) I.ok.funs
theorem Inv.stack (I:Inv X pins σ H s):s.heap.FunFrames X.base X.stack:=by
 rcases I.ok.stk with e | ⟨e,hf⟩
 ·rw [e]; exact I.funs
 ·rw [e]
  obtain ⟨m,hn,_⟩:=I.loc
  refine .cons (by rw [I.ok.kind]; decide) hf hn ?_ I.funs
  exact Heap.get?_none_of_le (Nat.le_trans I.ok.bsz I.ok.above)
theorem Inv.stkSub (I:Inv X pins σ H s):∀ b∈frs X.stack,b∈X.env.locals :: X.fs:=fun b hb=>by
 rcases I.ok.stk with e | ⟨e,hf⟩
 ·rw [e] at hb; exact List.mem_cons_of_mem _ hb
 ·rw [e] at hb
  unfold frs at hb
  rw [List.filterMap_cons,hf] at hb
  exact hb
theorem Inv.stkFree (I:Inv X pins σ H s):∀ b∈frs X.stack,H b=none:=fun b hb=>by
 rcases List.mem_cons.mp (I.stkSub b hb) with e | hb
 ·rw [e]; exact I.free
 ·obtain ⟨_,o,ho,_⟩:=I.ok.funs.mem hb
  exact I.base.free b o ho (I.ok.frf b hb) fun z=>I.ok.exfs b z hb
theorem Inv.step {g':Array GenState}{t':Nat}{d':Drawn}{ch:List Addr}(I:Inv X pins σ H s)
  (hch:∀ b∈ch,(b∈X.ex\/X.s₀.heap.objs.size≤b)/\b≠X.env.locals/\(∀ x c,X.env.cells.lookup x=some c->c≠b)/\∀ p∈X.pn ++ pins,p.1≠b)
  (keep:∀ b o,b≠X.env.locals->b ∉ X.fs->b ∉ ch->s.heap.get? b=some o->H b=none->h'.get? b=some o)
  (slot:∀ b o,b≠X.env.locals->b∈X.fs->b ∉ ch->s.heap.get? b=some o->H b=none->∃ sl,h'.get? b=some { o with slots:=sl }) (free:∀ b o,b ∉ ch->s.heap.get? b=some o->H b=none->H' b=none)
  (there:∀ b o,b ∉ ch->s.heap.get? b=some o->∃ o',h'.get? b=some o')
  (tups:∀ b xs,H b=some (.tup xs)->H' b=some (.tup xs)) (frzs:∀ b o u,H b=some (.frz o u)->H' b=some (.frz o u)) (tbls:∀ b ps,H b=some (.tbl ps)->∃ more,H' b=some (.tbl (ps ++ more)))
  (ns:∀ m,s.heap.Ns X.env.locals m->h'.Ns X.env.locals m) (hok:HOk X.prog X.w H' h') (hg:AllBare g') :
  Inv X pins σ H' { s with heap:=h',gens:=g',drawn:=d',toks:=t' }:=by
 have neL:∀ b o,X.s₀.heap.get? b=some o->b≠X.env.locals:=fun b o e=>Nat.ne_of_lt (Nat.lt_of_lt_of_le (Heap.lt_size e) I.ok.above)
 have neC:∀ b o,X.s₀.heap.get? b=some o->b ∉ X.ex->b ∉ ch:=fun b o e hx hb=>by
  rcases (hch b hb).1 with z | z
  ·exact hx z
  ·exact absurd (Nat.lt_of_lt_of_le (Heap.lt_size e) z) (Nat.lt_irrefl _)
 have cellK:∀ x c,X.env.cells.lookup x=some c->∀ v,s.heap.IsCell c v->h'.IsCell c v:=fun x c e v ⟨o,ho,hd⟩=>by
  have nch:c ∉ ch:=fun z=>(hch c z).2.2.1 x c e rfl
  by_cases hc:c∈X.fs
  ·obtain ⟨sl,q⟩:=slot c o (I.cne x c e) hc nch ho (I.freeC x c e)
   exact ⟨_,q,hd⟩
  ·exact ⟨o,keep c o (I.cne x c e) hc nch ho (I.freeC x c e),hd⟩
 refine ⟨I.ok,I.os,hg,⟨fun b o e n hb hx=>?_,fun b o e n hb hx=>?_,fun b o e n hx=>?_,fun b o e hx=>?_,fun b xs e=>tups b xs (I.base.tups b xs e),fun b o xs e=>frzs b o xs (I.base.frzs b o xs e),fun b ps e=>?_⟩,?_,fun x c e=>?_,?_,fun x c e=>?_,fun p hp=>?_,hok,I.len⟩
 ·exact keep b o (neL b o e) hb (neC b o e hx) (I.base.keep b o e n hb hx) (I.base.free b o e n hx)
 ·obtain ⟨sl,e1⟩:=I.base.slot b o e n hb hx
  obtain ⟨sl',e2⟩:=slot b _ (neL b o e) hb (neC b o e hx) e1 (I.base.free b o e n hx)
  exact ⟨sl',e2⟩
 ·obtain ⟨o',e1⟩:=I.base.there b o e hx
  exact free b o' (neC b o e hx) e1 (I.base.free b o e n hx)
 ·obtain ⟨o',e1⟩:=I.base.there b o e hx
  exact there b o' (neC b o e hx) e1
 ·obtain ⟨m1,e1⟩:=I.base.tbls b ps e
  obtain ⟨m2,e2⟩:=tbls b _ e1
  exact ⟨m1 ++ m2,by rw [e2,Array.append_assoc]⟩
 ·obtain ⟨m,hn,hl⟩:=I.loc
  refine ⟨m,ns m hn,fun i x v e1 e2 e3=>?_⟩
  obtain ⟨u,r,l⟩:=hl i x v e1 e2 e3
  refine ⟨u,r,?_⟩
  rcases l with l | ⟨k,c,e,z⟩
  ·exact .inl l
  ·exact .inr ⟨k,c,e,cellK x c e _ z⟩
 ·obtain ⟨v,z⟩:=I.cell x c e
  exact ⟨v,cellK x c e v z⟩
 ·obtain ⟨m,⟨o,_,_,ho,_⟩,_⟩:=I.loc
  exact free _ o (fun z=>(hch _ z).2.1 rfl) ho I.free
 ·obtain ⟨v,o,ho,hd⟩:=I.cell x c e
  exact free c o (fun z=>(hch c z).2.2.1 x c e rfl) ho (I.freeC x c e)
 ·obtain ⟨e,n,ne,nf,d⟩:=I.pin p hp
  have nch:p.1 ∉ ch:=fun z=>(hch p.1 z).2.2.2 p hp rfl
  exact ⟨keep p.1 p.2 ne nf nch e n,free p.1 p.2 nch e n,ne,nf,d⟩
theorem Inv.un {t':Nat}(I:Inv X pins σ H s)(u:Un X.fs [] H H' s.heap h')(hok:HOk X.prog X.w H' h'):Inv X pins σ H' { s with heap:=h',toks:=t' }:=by
 obtain ⟨m,⟨o,es,ep,ho,r⟩,_⟩:=id I.loc
 obtain ⟨sl,hL⟩:=u.any ho I.free (by simp)
 exact I.step (g':=s.gens) (d':=s.drawn) (ch:=[]) (fun _ z=>nomatch z) (fun b o _ hb _ e n=>u.keep b o e n hb (by simp)) (fun b o _ hb _ e n=>u.slot b o e n hb (by simp)) (fun b o _ e n=>u.free b o e n (by simp)) (fun b o _ e=>u.there b o e (by simp)) u.tups u.frzs u.tbls (fun m' hm=>by
  obtain ⟨o',es',ep',ho',r'⟩:=hm
  rw [ho] at ho'; cases ho'
  exact ⟨_,es',ep',hL,r'⟩) hok I.bare
theorem Inv.call {g':Array GenState}{t':Nat}{d':Drawn}{ch:List Addr}(I:Inv X pins σ H s)(u:Un (frs X.stack) ch H H' s.heap h')(hok:HOk X.prog X.w H' h')(hg:AllBare g')
  (hch:∀ b∈ch,(b∈X.ex\/X.s₀.heap.objs.size≤b)/\b≠X.env.locals/\(∀ x c,X.env.cells.lookup x=some c->c≠b)/\∀ p∈X.pn ++ pins,p.1≠b) :
  Inv X pins σ H' { s with heap:=h',gens:=g',drawn:=d',toks:=t' }:=by
 obtain ⟨m,⟨o,es,ep,ho,r⟩,_⟩:=id I.loc
 obtain ⟨sl,hL⟩:=u.any ho I.free fun z=>(hch _ z).2.1 rfl
 exact I.step (ch:=ch) hch (fun b o hL hb hc e n=>u.keep b o e n (fun z=>(List.mem_cons.mp (I.stkSub b z)).elim hL hb) hc) (fun b o _ _ hc e n=>u.any e n hc) (fun b o hc e n=>u.free b o e n hc) (fun b o hc e=>u.there b o e hc) u.tups u.frzs u.tbls (fun m' hm=>by
  obtain ⟨o',es',ep',ho',r'⟩:=hm
  rw [ho] at ho'; cases ho'
  exact ⟨_,es',ep',hL,r'⟩) hok hg
theorem Inv.turned {t':Nat}{it:Addr}(I:Inv X pins σ H s)(k:∀ b o,b≠it->s.heap.get? b=some o->h'.get? b=some o)(hn:H it=none)(hL:it≠X.env.locals)
  (h1:it∈X.ex\/X.s₀.heap.objs.size≤it) (h2:∀ x c,X.env.cells.lookup x=some c->c≠it) (h3:∀ p∈X.pn ++ pins,p.1≠it):Inv X pins σ H { s with heap:=h',toks:=t' }:=by
 have nit:∀ b u,H b=some u->b≠it:=fun b u e z=>by rw [z,hn] at e; cases e
 refine I.step (g':=s.gens) (d':=s.drawn) (ch:=[it]) (fun b hb=>?_) (fun b o _ _ hc e _=>k b o (fun z=>hc (by simp [z])) e) (fun b o _ _ hc e _=>⟨o.slots,k b o (fun z=>hc (by simp [z])) e⟩) (fun _ _ _ _ n=>n)
  (fun b o hc e=>⟨o,k b o (fun z=>hc (by simp [z])) e⟩) (fun _ _ e=>e) (fun _ _ _ e=>e) (fun b ps e=>⟨#[],by rw [e]; simp⟩) (fun m hm=>?_) (fun b u e=>?_) I.bare
 ·have e:b=it:=by simpa using hb
  subst e
  exact ⟨h1,hL,h2,h3⟩
 ·obtain ⟨o,es,ep,ho,r⟩:=hm
  exact ⟨o,es,ep,k _ o (Ne.symm hL) ho,r⟩
 ·refine (I.hok b u e).stay (fun c v hc q=>k c v ?_ q) (fun _ q=>q) fun _ _ q=>q
  rcases hc with z | z
  ·rw [z]; exact nit b u e
  ·exact nit c _ z
theorem Inv.tok (I:Inv X pins σ H s)(t:Nat):Inv X pins σ H { s with toks:=t }:=I.un (h':=s.heap) (t':=t) Un.refl I.hok
theorem Inv.kept {t':Nat}(I:Inv X pins σ H s)(k:∀ b u,s.heap.get? b=some u->h'.get? b=some u):Inv X pins σ H { s with heap:=h',toks:=t' }:=I.un (Un.kept k) (I.hok.kept k)
theorem Inv.laid {a:Addr}{o:HO}{t':Nat}(I:Inv X pins σ H s)(k:∀ b u,s.heap.get? b=some u->h'.get? b=some u)(hp:s.heap.objs.size≤a)(new:qaR X.prog X.w (upd H a o) h' a o) :
  Inv X pins σ (upd H a o) { s with heap:=h',toks:=t' }:=I.un (Un.laid k hp (I.hok.fresh hp)) (I.hok.laid k hp new)
theorem Inv.write {x e:Addr}{o:HO}{t':Nat}(I:Inv X pins σ H s)(mu:Mut (H x))(he:e=x\/H e=some (.own x))(k:∀ b u,b≠e->s.heap.get? b=some u->h'.get? b=some u)(heo:∃ u,h'.get? e=some u)
  (new:qaR X.prog X.w (upd H x o) h' x o):Inv X pins σ (upd H x o) { s with heap:=h',toks:=t' }:=I.un (Un.write mu he k heo) (I.hok.write mu he k heo new)
theorem Inv.pins_of {pins':List (Addr × Obj)}(I:Inv X pins σ H s)(h:∀ p∈pins',s.heap.get? p.1=some p.2/\H p.1=none/\p.1≠X.env.locals/\p.1 ∉ X.fs/\∀ v,p.2.data ≠ .cell v):Inv X pins' σ H s :=
 ⟨I.ok,I.os,I.bare,I.base,I.loc,I.cell,I.free,I.freeC,fun p hp=>(List.mem_append.mp hp).elim (fun z=>I.pin p (List.mem_append_left _ z)) (h p),I.hok,I.len⟩
theorem qer {N:List Str}(hN:N.Nodup){i j:Nat}{x:Str}(a:N[i]?=some x)(b:N[j]?=some x):i=j:=by
 obtain ⟨h1,e1⟩:=List.getElem?_eq_some_iff.mp a
 obtain ⟨h2,e2⟩:=List.getElem?_eq_some_iff.mp b
 exact (List.getElem_inj hN).mp (e1.trans e2.symm)
theorem qh5 {M:Model}{A:Around}{E:Value->Shared->Prop}{i:Nat}{x:Str}{v:V}{u:Value}{Q:Unit->Shared->Prop}(I:Inv X pins σ H s)(hN:X.N.Nodup)(hi:X.N[i]?=some x)(hx:Loc X.env.scope x)(r:RelV v u)
  (h:∀ s',Inv X pins (σ.set i (some v)) H s'->(∃ a,Heap.SameBut a s.heap s'.heap/\(a=X.env.locals\/X.env.cells.lookup x=some a))->Q () s') (hf:X.fn x=true\/X.env.scope.names.lookup x=some .local:=by first | exact .inl rfl | exact .inr rfl | assumption):wpAny M A (storeName X.env x u) Q E s:=by
 obtain ⟨m,hn,hl⟩:=id I.loc
 have hcls:(X.env.scope.kind == .class || (X.env.scope.kind == .module && X.env.locals != X.env.globals))=false:=by rw [I.ok.kind]; rfl
 have hiσ:i < σ.length:=by rw [I.len]; exact (List.getElem?_eq_some_iff.mp hi).1
 have cne:=I.cne
 have tracked:∀ {a:Addr} {h':Heap},(∃ o,s.heap.get? a=some o/\H a=none)->Heap.SameBut a s.heap h'->HOk X.prog X.w H h':=fun {a h'} ha hs b ob e=>by
  obtain ⟨_,_,hfree⟩:=ha
  refine (I.hok b ob e).stay (fun c w' hc q=>(hs.2 c ?_).trans q) (fun _ q=>q) fun _ _ q=>q
  rintro rfl
  rcases hc with rfl | hc
  ·rw [hfree] at e; cases e
  ·rw [hfree] at hc; cases hc
 rcases hx with hk | hk
 ·refine wpAny_storeName_local hk hn (fun h' hn' hs=>?_) hcls
  obtain ⟨oL,_,_,hoL,_⟩:=id hn
  refine h _ ⟨I.ok,I.os,I.bare,⟨fun b o e n hb hx=>?_,fun b o e n hb hx=>?_,I.base.free,fun b o e hx=>?_,I.base.tups,I.base.frzs,I.base.tbls⟩,⟨_,hn',fun j y v' e1 e2 e3=>?_⟩,fun y c e=>?_,I.free,I.freeC,fun p hp=>?_,tracked ⟨oL,hoL,I.free⟩ hs,by simpa using I.len⟩ ⟨_,hs,.inl rfl⟩
  ·exact (hs.2 b (Nat.ne_of_lt (Nat.lt_of_lt_of_le (Heap.lt_size e) I.ok.above))).trans (I.base.keep b o e n hb hx)
  ·obtain ⟨sl,e1⟩:=I.base.slot b o e n hb hx
   exact ⟨sl,(hs.2 b (Nat.ne_of_lt (Nat.lt_of_lt_of_le (Heap.lt_size e) I.ok.above))).trans e1⟩
  ·obtain ⟨o',e1⟩:=I.base.there b o e hx
   exact ⟨o',(hs.2 b (Nat.ne_of_lt (Nat.lt_of_lt_of_le (Heap.lt_size e) I.ok.above))).trans e1⟩
  ·by_cases hj:j=i
   ·subst hj
    rw [hi] at e1; cases e1
    rw [List.getElem?_set_self hiσ] at e2
    cases e2
    exact ⟨u,r,.inl ⟨hk,by simp⟩⟩
   ·rw [List.getElem?_set_ne (Ne.symm hj)] at e2
    obtain ⟨u',r',q⟩:=hl j y v' e1 e2 e3
    refine ⟨u',r',?_⟩
    rcases q with ⟨k,e⟩ | ⟨k,c,e,z⟩
    ·refine .inl ⟨k,?_⟩
     have:y≠x:=fun e=>hj (qer hN e1 (e ▸ hi))
     simp [this,e]
    ·exact .inr ⟨k,c,e,z.sameBut hs (cne y c e)⟩
  ·obtain ⟨w',z⟩:=I.cell y c e
   exact ⟨w',z.sameBut hs (cne y c e)⟩
  ·obtain ⟨e,n,ne,nf,d⟩:=I.pin p hp
   exact ⟨(hs.2 p.1 ne).trans e,n,ne,nf,d⟩
 ·have hfn:X.fn x=true:=by
   rcases hf with z | z
   ·exact z
   ·rw [z] at hk; cases hk
  obtain ⟨c,hc⟩:=I.ok.has x (.inl hk)
  obtain ⟨w',z⟩:=I.cell x c hc
  refine wpAny_storeName_cell I.ok.kind hk hc z (fun h' hc' hs=>?_)
  obtain ⟨oc,hoc,hocd⟩:=id z
  refine h { s with heap:=h' } ⟨I.ok,I.os,I.bare,⟨fun b o e n hb hx=>?_,fun b o e n hb hx=>?_,I.base.free,fun b o e hx=>?_,I.base.tups,I.base.frzs,I.base.tbls⟩,⟨m,hn.sameBut hs (Ne.symm (cne x c hc)),fun j y v' e1 e2 e3=>?_⟩,fun y c' e=>?_,I.free,I.freeC,fun p hp=>?_,tracked ⟨oc,hoc,I.freeC x c hc⟩ hs,by simpa using I.len⟩ ⟨c,hs,.inr hc⟩
  ·exact (hs.2 b (Nat.ne_of_lt (Nat.lt_of_lt_of_le (Heap.lt_size e) (I.ok.cab x c hfn hc)))).trans (I.base.keep b o e n hb hx)
  ·obtain ⟨sl,e1⟩:=I.base.slot b o e n hb hx
   exact ⟨sl,(hs.2 b (Nat.ne_of_lt (Nat.lt_of_lt_of_le (Heap.lt_size e) (I.ok.cab x c hfn hc)))).trans e1⟩
  ·obtain ⟨o',e1⟩:=I.base.there b o e hx
   exact ⟨o',(hs.2 b (Nat.ne_of_lt (Nat.lt_of_lt_of_le (Heap.lt_size e) (I.ok.cab x c hfn hc)))).trans e1⟩
  ·by_cases hj:j=i
   ·subst hj
    rw [hi] at e1; cases e1
    rw [List.getElem?_set_self hiσ] at e2
    cases e2
    exact ⟨u,r,.inr ⟨.inl hk,c,hc,hc'⟩⟩
   ·rw [List.getElem?_set_ne (Ne.symm hj)] at e2
    obtain ⟨u',r',q⟩:=hl j y v' e1 e2 e3
    refine ⟨u',r',?_⟩
    rcases q with q | ⟨k,c',e,z'⟩
    ·exact .inl q
    ·refine .inr ⟨k,c',e,z'.sameBut hs ?_⟩
     rintro rfl
     exact hj (qer hN e1 (I.ok.inj _ _ _ e hc ▸ hi))
  ·by_cases hcc:c'=c
   ·subst hcc; exact ⟨_,hc'⟩
   ·obtain ⟨w2,z2⟩:=I.cell y c' e
    exact ⟨w2,z2.sameBut hs hcc⟩
  ·obtain ⟨e,n,ne,nf,d⟩:=I.pin p hp
   refine ⟨(hs.2 p.1 ?_).trans e,n,ne,nf,d⟩
   intro q
   rw [q,hoc] at e
   have q':oc=p.2:=Option.some.inj e
   exact d w' (by rw [<- q']; exact hocd)
theorem qcg {M:Model}{A:Around}{E:Value->Shared->Prop}{i:Nat}{x:Str}{v:V}{u:Value}{Q:Unit->Shared->Prop}(I:Inv X pins σ H s)(hN:X.N.Nodup)(hi:X.N[i]?=some x)(hx:Loc X.env.scope x)(r:RelV v u)
  (h:∀ s',Inv X pins (σ.set i (some v)) H s'->Q () s') (hf:X.fn x=true\/X.env.scope.names.lookup x=some .local:=by first | exact .inl rfl | exact .inr rfl | assumption):wpAny M A (storeName X.env x u) Q E s :=
 qh5 I hN hi hx r (fun s' I' _=>h s' I') hf
theorem Inv.call' {s':Shared}{ch:List Addr}(I:Inv X pins σ H s)(ho:s'.os=s.os)(u:Un (frs X.stack) ch H H' s.heap s'.heap)(hok:HOk X.prog X.w H' s'.heap)(hg:AllBare s'.gens)
  (hch:∀ b∈ch,(b∈X.ex\/X.s₀.heap.objs.size≤b)/\b≠X.env.locals/\(∀ x c,X.env.cells.lookup x=some c->c≠b)/\∀ p∈X.pn ++ pins,p.1≠b):Inv X pins σ H' s':=by
 obtain ⟨h',g',d',t',o'⟩:=s'
 have e:o'=s.os:=ho
 subst e
 exact I.call (g':=g') (t':=t') (d':=d') u hok hg hch
end
abbrev XK:=Value->Option Addr->Hp->Prop
abbrev St:=List (Option V)
abbrev VK:=V->Hp->Prop
abbrev TE:=St->Hp->VK->Prop
abbrev TT:=St->Hp->(Bool->Hp->Prop)->Prop
abbrev TA:=St->Hp->(List V->Hp->Prop)->Prop
structure Ends where
 nx:St->Hp->Prop
 rt:VK
 bk:St->Hp->Prop:=fun _ _=>False
 ct:St->Hp->Prop:=fun _ _=>False
abbrev TS:=Ends->St->Hp->Prop
def EP (X:Cx)(pins:List (Addr × Obj))(σ:St)(Q:VK)(u:Value)(s':Shared):Prop:=∃ v H',Inv X pins σ H' s'/\RelV v u/\Q v H'
def TP (X:Cx)(pins:List (Addr × Obj))(σ:St)(Q:Bool->Hp->Prop)(b:Bool)(s':Shared):Prop:=∃ H',Inv X pins σ H' s'/\Q b H'
def AP (X:Cx)(pins:List (Addr × Obj))(σ:St)(Q:List V->Hp->Prop)(us:List Value)(s':Shared):Prop:=∃ vs H',Inv X pins σ H' s'/\Vals vs us/\Q vs H'
def SP (X:Cx)(pins:List (Addr × Obj))(D:Ends)(f:Flow)(s':Shared):Prop :=
 match f with
 | .next=>∃ σ' H',Inv X pins σ' H' s'/\D.nx σ' H'
 | .brk=>∃ σ' H',Inv X pins σ' H' s'/\D.bk σ' H'
 | .cont=>∃ σ' H',Inv X pins σ' H' s'/\D.ct σ' H'
 | .ret u=>∃ v σ' H',Inv X pins σ' H' s'/\RelV v u/\D.rt v H'
def PE (X:Cx)(e:Expr)(t:TE):Prop :=
 ∀ (pins:List (Addr × Obj)) (s:Shared) (σ:St) (H:Hp) (Q:VK),Inv X pins σ H s->t σ H Q->wpAny (model X.prog X.w) X.A (eval e X.env) (EP X pins σ Q) X.xe s
def PT (X:Cx)(e:Expr)(t:TT):Prop :=
 ∀ (pins:List (Addr × Obj)) (s:Shared) (σ:St) (H:Hp) (Q:Bool->Hp->Prop),Inv X pins σ H s->t σ H Q->wpAny (model X.prog X.w) X.A (isTrue e X.env (eval e X.env)) (TP X pins σ Q) X.xe s
def PW (X:Cx)(e:Expr)(t:TT):Prop :=
 ∀ (whole:Sem Value) (pins:List (Addr × Obj)) (s:Shared) (σ:St) (H:Hp) (Q:Bool->Hp->Prop),Inv X pins σ H s->t σ H Q->wpAny (model X.prog X.w) X.A (isTrue e X.env whole) (TP X pins σ Q) X.xe s
theorem PW.pt {X:Cx}{e:Expr}{t:TT}(h:PW X e t):PT X e t:=h _
def PA (X:Cx)(es:List Expr)(t:TA):Prop :=
 ∀ (pos:Pos) (pins:List (Addr × Obj)) (s:Shared) (σ:St) (H:Hp) (Q:List V->Hp->Prop),Inv X pins σ H s->t σ H Q->wpAny (model X.prog X.w) X.A (spliced (backTo pos (starEach es X.env))) (AP X pins σ Q) X.xe s
def PS (X:Cx)(st:Stmt)(t:TS):Prop :=
 ∀ (pins:List (Addr × Obj)) (s:Shared) (σ:St) (H:Hp) (D:Ends),Inv X pins σ H s->t D σ H->wpAny (model X.prog X.w) X.A (exec st X.env) (SP X pins D) X.xe s
def PSs (X:Cx)(st:List Stmt)(t:TS):Prop :=
 ∀ (pins:List (Addr × Obj)) (s:Shared) (σ:St) (H:Hp) (D:Ends),Inv X pins σ H s->t D σ H->wpAny (model X.prog X.w) X.A (execs st X.env) (SP X pins D) X.xe s
theorem thn {α:Type}{t:Sem α}{Q Q':α->Shared->Prop}{M:Model}{A:Around}{E:Value->Shared->Prop}{s:Shared}(h:wpAny M A t Q E s)(hQ:∀ a s,Q a s->Q' a s):wpAny M A t Q' E s:=wpAny_mono h hQ fun _ _ x=>x
section
variable {X:Cx}
def tVar (i:Nat):TE:=fun σ H Q=>∃ v,σ[i]?=some (some v)/\Q v H
def tC (v:V):TE:=fun _ H Q=>Q v H
theorem qk0 {i:Nat}{x:Str}{pos:Pos}(hN:X.N[i]?=some x)(hv:Vis X.env.scope x)(hd:(x == ("__debug__" : Str))=false:=by decide)(hcd:(x == ("__classdict__" : Str))=false:=by decide):PE X (.Name x pos) (tVar i):=by
 intro pins s σ H Q I h
 obtain ⟨v,e,h⟩:=h
 obtain ⟨m,hn,hl⟩:=I.loc
 obtain ⟨u,r,l⟩:=hl i x v hN e hv
 have fin:EP X pins σ Q u s:=⟨v,H,I,r,h⟩
 rcases l with ⟨hk,hm⟩ | ⟨hk,c,hc,hcell⟩
 ·exact wpAny_Name (wpAny_loadName_local I.ok.kind hk hn hm fin) hd
 ·rcases hk with hk | hk
  ·exact wpAny_Name (wpAny_loadName_cell I.ok.kind hk hc hcell fin) hd
  ·exact wpAny_Name (wpAny_loadName_free I.ok.kind hk hc hcell fin hcd) hd
theorem pI {i j pos}:PE X (.Constant (.int i) j pos) (tC (.int i)):=fun _ _ _ H _ I h=>wpAny_Constant_int ⟨.int i,H,I.tok _,⟨_,rfl⟩,h⟩
theorem qe0 {b j pos}:PE X (.Constant (.bool b) j pos) (tC (.bl b)):=fun _ _ _ H _ I h=>Constant_bool ⟨.bl b,H,I,rfl,h⟩
theorem qk1 {j pos}:PE X (.Constant .none j pos) (tC .non):=fun _ _ _ H _ I h=>Constant_none ⟨.non,H,I,rfl,h⟩
theorem qav {x j pos}:PE X (.Constant (.str x) j pos) (tC (.str x)):=fun _ _ _ H _ I h=>Calls.Constant_str ⟨.str x,H,I.tok _,⟨_,rfl⟩,h⟩
def Gl (X:Cx)(x:Str):Prop:=X.env.kindOf x=some .globalImplicit
theorem qdp {E:Value->Shared->Prop}{pins:List (Addr × Obj)}{s:Shared}{σ:St}{H:Hp}{x:Str}{u:Value}{pos:Pos}{Q:Value->Shared->Prop}(I:Inv X pins σ H s)(hg:Gl X x)(hm:X.mg x=some u)(h:Q u s)
  (hd:(x == ("__debug__" : Str))=false:=by decide):wpAny (model X.prog X.w) X.A (eval (.Name x pos) X.env) Q E s :=
 Calls.Name_function_global I.ok.kind hg (Calls.loadGlobal_global (by rw [I.ok.glob]; exact I.mod.glob.keeps I.bk) hm h) hd
theorem qfa {E:Value->Shared->Prop}{pins:List (Addr × Obj)}{s:Shared}{σ:St}{H:Hp}{x:Str}{u:Value}{pos:Pos}{Q:Value->Shared->Prop}(I:Inv X pins σ H s)(hg:Gl X x)(hm:X.mg x=none)(hv:bootBuiltins x=some u)(h:Q u s)
  (hn:x ≠ "__name__" := by decide) (hd:(x == ("__debug__" : Str))=false:=by decide):wpAny (model X.prog X.w) X.A (eval (.Name x pos) X.env) Q E s:=by
 obtain ⟨mb,h1,h2⟩:=I.mod.blt
 exact Calls.Name_function_global I.ok.kind hg (Calls.loadGlobal_builtin (by rw [I.ok.glob]; exact I.mod.glob.keeps I.bk) hm (by rw [I.ok.blt]; exact h1.keeps I.bk) ((h2 x hn).trans hv) h) hd
theorem qbm {x:Str}{v:V}{u:Value}{pos:Pos}(hg:Gl X x)(hm:X.mg x=some u)(r:RelV v u)(hd:(x == ("__debug__" : Str))=false:=by decide):PE X (.Name x pos) (tC v) :=
 fun _ _ _ H _ I h=>qdp I hg hm ⟨v,H,I,r,h⟩ hd
theorem qlP {x:Str}{v:V}{u:Value}{pos:Pos}(hg:Gl X x)(hm:X.mg x=none)(hv:bootBuiltins x=some u)(r:RelV v u)(hn:x ≠ "__name__" := by decide)(hd:(x == ("__debug__" : Str))=false:=by decide):PE X (.Name x pos) (tC v) :=
 fun _ _ _ H _ I h=>qfa I hg hm hv ⟨v,H,I,r,h⟩ hn hd
variable {a b:Expr}{ta tb:TE}{pos:Pos}
def tB (t:TE):TT:=fun σ H Q=>t σ H fun x H1=>∃ c,x = .bl c/\Q c H1
theorem qkZ {e:Expr}{t:TE}(h:PE X e t)(he:∀ whole,isTrue e X.env whole=(do let v <- whole; standAt e.pos; holding [v] (truthy v)):=by intro _; rfl):PT X e (tB t):=by
 intro pins s σ H Q I hw
 refine isTrue_plain (thn (h pins s σ H _ I hw) fun v s1 ⟨x,H1,I1,r1,q1⟩=>?_) (he _)
 obtain ⟨d,rfl,q⟩:=q1
 cases r1
 exact wpAny_truthy_bool ⟨H1,I1,q⟩
variable {tA tB':TT}{rest:List Expr}
def tAnd (t u:TT):TT:=fun σ H Q=>t σ H fun c H1=>if c=true then u σ H1 Q else Q false H1
def tOr (t u:TT):TT:=fun σ H Q=>t σ H fun c H1=>if c=true then Q true H1 else u σ H1 Q
def tNot (t:TT):TT:=fun σ H Q=>t σ H fun c H1=>Q (!c) H1
theorem qfK (ha:PT X a tA):PW X (.BoolOp .And [a] pos) tA:=by
 intro wh pins s σ H Q I h
 refine isTrue_and (thn (ha pins s σ H Q I h) fun c s1 e=>?_)
 cases c with
 | true=>exact isTrue_and_nil e
 | false=>exact e
theorem qkY (ha:PT X a tA):PW X (.BoolOp .Or [a] pos) tA:=by
 intro wh pins s σ H Q I h
 refine isTrue_or (thn (ha pins s σ H Q I h) fun c s1 e=>?_)
 cases c with
 | false=>exact isTrue_or_nil e
 | true=>exact e
theorem qim (ha:PT X a tA)(hb:PW X (.BoolOp .And (b :: rest) pos) tB'):PW X (.BoolOp .And (a :: b :: rest) pos) (tAnd tA tB'):=by
 intro wh pins s σ H Q I h
 refine isTrue_and (thn (ha pins s σ H _ I h) fun c s1 ⟨H1,I1,q1⟩=>?_)
 cases c with
 | true=>exact hb wh pins s1 σ H1 Q I1 q1
 | false=>exact ⟨H1,I1,q1⟩
theorem qlG (ha:PT X a tA)(hb:PW X (.BoolOp .Or (b :: rest) pos) tB'):PW X (.BoolOp .Or (a :: b :: rest) pos) (tOr tA tB'):=by
 intro wh pins s σ H Q I h
 refine isTrue_or (thn (ha pins s σ H _ I h) fun c s1 ⟨H1,I1,q1⟩=>?_)
 cases c with
 | true=>exact ⟨H1,I1,q1⟩
 | false=>exact hb wh pins s1 σ H1 Q I1 q1
theorem qm5 (ha:PT X a tA):PT X (.UnaryOp .Not a pos) (tNot tA):=by
 intro pins s σ H Q I h
 exact isTrue_not (ha pins s σ H (fun c H1=>Q (!c) H1) I h)
def tIf (t:TT)(ta tb:TE):TE:=fun σ H Q=>t σ H fun c H1=>if c=true then ta σ H1 Q else tb σ H1 Q
theorem qj9 {c:Expr}(hc:PT X c tA)(ha:PE X a ta)(hb:PE X b tb):PE X (.IfExp c a b pos) (tIf tA ta tb):=by
 intro pins s σ H Q I h
 refine wpAny_IfExp (thn (hc pins s σ H _ I h) fun d s1 ⟨H1,I1,q1⟩=>?_)
 cases d with
 | true=>exact ha pins s1 σ H1 Q I1 q1
 | false=>exact hb pins s1 σ H1 Q I1 q1
end
def SqL (K:PySem.W.Frag)(H:Hp)(a:Addr)(xs:List V):Prop :=
 Rd H a (.lst xs) \/
  ∃ (o:Obj) (its:Array Value) (n:Nat),K.lookup a=some o/\o.cls = .type "list" /\ o.dict=none/\o.data = .seq its n/\its.size≤sizeLine/\Vals xs its.toList
def SqT (K:PySem.W.Frag)(H:Hp)(a:Addr)(xs:List V):Prop :=
 Rd H a (.tup xs) \/
  ∃ (o:Obj) (its:Array Value) (n:Nat),K.lookup a=some o/\o.cls = .type "tuple" /\ o.data = .seq its n/\its.size≤sizeLine/\Vals xs its.toList
def absV:Value->Option V
 | .none=>some .non
 | .bool b=>some (.bl b)
 | .int i _=>some (.int i)
 | .str x _=>some (.str x)
 | .bytes b _=>some (.byt b)
 | .float b _=>some (.flt b)
 | .ref a=>some (.ref a)
 | .type n=>some (.ty n)
 | _=>none
theorem RelV.abs {x:V}{u:Value}(r:RelV x u):absV u=some x:=by
 cases x with
 | non=>cases r; rfl
 | bl _=>cases r; rfl
 | int _=>obtain ⟨t,rfl⟩:=r; rfl
 | str _=>obtain ⟨t,rfl⟩:=r; rfl
 | byt _=>obtain ⟨t,rfl⟩:=r; rfl
 | flt _=>obtain ⟨t,rfl⟩:=r; rfl
 | ref _=>cases r; rfl
 | ty _=>cases r; rfl
theorem RelV.inj {x y:V}{u:Value}(r:RelV x u)(q:RelV y u):x=y:=Option.some.inj (r.abs.symm.trans q.abs)
theorem Vals.inj:∀ {xs ys:List V} {us:List Value},Vals xs us->Vals ys us->xs=ys
 | _,_,_,.nil,.nil=>rfl
 | _,_,_,.cons r t,.cons r' t'=>by rw [r.inj r',Vals.inj t t']
section
variable {X:Cx}{pins:List (Addr × Obj)}{σ:St}{H:Hp}{s:Shared}{a:Addr}{xs ys:List V}
theorem SqL.of {K:PySem.W.Frag}(h:H a=some (.lst xs)):SqL K H a xs := .inl (.inl h)
theorem SqT.of {K:PySem.W.Frag}(h:H a=some (.tup xs)):SqT K H a xs := .inl (.inl h)
theorem Inv.list (I:Inv X pins σ H s)(h:SqL X.K H a xs):∃ its:List Value,Vals xs its/\PlainL s.heap a its.toArray/\xs.length≤sizeLine:=by
 rcases h with h | ⟨o,its,n,hk,hc,hd,hs,hz,r⟩
 ·obtain ⟨z,its,n,r,e⟩:=h.ok I.hok
  exact ⟨its,r,⟨_,n,e,rfl,rfl,rfl⟩,z⟩
 ·refine ⟨its.toList,r,⟨o,n,I.kIn a o hk,hc,hd,by simpa using hs⟩,?_⟩
  have e:=r.length
  simp only [Array.length_toList] at e
  omega
theorem Inv.tuple (I:Inv X pins σ H s)(h:SqT X.K H a xs):∃ its:List Value,Vals xs its/\IsTup s.heap a its.toArray/\xs.length≤sizeLine:=by
 rcases h with h | ⟨o,its,n,hk,hc,hs,hz,r⟩
 ·obtain ⟨z,its,r,p⟩:=h.ok I.hok
  exact ⟨its,r,p.tup,z⟩
 ·refine ⟨its.toList,r,⟨o,I.kIn a o hk,hc,n,by simpa using hs⟩,?_⟩
  have e:=r.length
  simp only [Array.length_toList] at e
  omega
theorem Inv.list_inj (I:Inv X pins σ H s)(h:SqL X.K H a xs)(h':SqL X.K H a ys):xs=ys:=by
 obtain ⟨its,r,⟨o,n,e,_,_,d⟩,_⟩:=I.list h
 obtain ⟨its',r',⟨o',n',e',_,_,d'⟩,_⟩:=I.list h'
 rw [e] at e'; cases e'
 rw [d] at d'
 injection d' with d1 _
 have:its=its':=by simpa using congrArg Array.toList d1
 subst this
 exact r.inj r'
theorem Inv.tuple_inj (I:Inv X pins σ H s)(h:SqT X.K H a xs)(h':SqT X.K H a ys):xs=ys:=by
 obtain ⟨its,r,⟨o,e,_,n,d⟩,_⟩:=I.tuple h
 obtain ⟨its',r',⟨o',e',_,n',d'⟩,_⟩:=I.tuple h'
 rw [e] at e'; cases e'
 rw [d] at d'
 injection d' with d1 _
 have:its=its':=by simpa using congrArg Array.toList d1
 subst this
 exact r.inj r'
end
abbrev Cx.wish (X:Cx)(E:Value->Shared->Prop):Cx:={ X with xe:=E }
abbrev Cx.nox (X:Cx):Cx:=X.wish fun _ _=>False
theorem Cx.Ok.wish {X:Cx}(ok:X.Ok)(E:Value->Shared->Prop):(X.wish E).Ok :=
 ⟨ok.mod,ok.kind,ok.glob,ok.blt,ok.above,ok.inj,ok.has,ok.cab,ok.hd,ok.frames,ok.stk,ok.exf,ok.bs,ok.bsz,ok.noex,ok.exfs,ok.funs,ok.frf⟩
theorem Cx.Ok.unwish {X:Cx}{E:Value->Shared->Prop}(ok:(X.wish E).Ok):X.Ok :=
 ⟨ok.mod,ok.kind,ok.glob,ok.blt,ok.above,ok.inj,ok.has,ok.cab,ok.hd,ok.frames,ok.stk,ok.exf,ok.bs,ok.bsz,ok.noex,ok.exfs,ok.funs,ok.frf⟩
section
variable {X:Cx}{pins:List (Addr × Obj)}{σ:St}{H:Hp}{s:Shared}{E:Value->Shared->Prop}
theorem Inv.wish (I:Inv X pins σ H s)(E:Value->Shared->Prop):Inv (X.wish E) pins σ H s:=⟨I.ok.wish E,I.os,I.bare,I.base,I.loc,I.cell,I.free,I.freeC,I.pin,I.hok,I.len⟩
theorem Inv.unwish (I:Inv (X.wish E) pins σ H s):Inv X pins σ H s:=⟨I.ok.unwish,I.os,I.bare,I.base,I.loc,I.cell,I.free,I.freeC,I.pin,I.hok,I.len⟩
theorem SP.unwish {D:Ends}{f:Flow}{s':Shared}(h:SP (X.wish E) pins D f s'):SP X pins D f s':=by
 cases f with
 | next=>obtain ⟨σ',H',I,q⟩:=h; exact ⟨σ',H',I.unwish,q⟩
 | brk=>obtain ⟨σ',H',I,q⟩:=h; exact ⟨σ',H',I.unwish,q⟩
 | cont=>obtain ⟨σ',H',I,q⟩:=h; exact ⟨σ',H',I.unwish,q⟩
 | ret u=>obtain ⟨v,σ',H',I,r,q⟩:=h; exact ⟨v,σ',H',I.unwish,r,q⟩
theorem PSs.nox {st:List Stmt}{t:TS}(h:PSs X.nox st t):PSs X st t:=fun pins s σ H D I hw =>
 wpAny_mono (h pins s σ H D (I.wish _) hw) (fun _ _ q=>q.unwish) fun _ _ z=>False.elim z
end
section
variable {X:Cx}{st:Stmt}{rest:List Stmt}{t u:TS}{e:Expr}{te:TE}{pos:Pos}
def tNext:TS:=fun D σ H=>D.nx σ H
def tSeq (t u:TS):TS:=fun D σ H=>t { D with nx:=u D } σ H
theorem qaA:PSs X [] tNext:=fun _ _ σ H _ I h=>wpAny_execs_nil ⟨σ,H,I,h⟩
theorem pK (h1:PS X st t)(h2:PSs X rest u):PSs X (st :: rest) (tSeq t u):=by
 intro pins s σ H D I h
 refine wpAny_execs_cons (thn (h1 pins s σ H { D with nx:=u D } I h) fun f s1 q=>?_)
 cases f with
 | next =>
  obtain ⟨σ',H',I',q⟩:=q
  exact h2 pins s1 σ' H' D I' q
 | ret v=>exact q
 | brk=>exact q
 | cont=>exact q
theorem pO (h1:PS X st t):PSs X [st] t:=by
 intro pins s σ H D I h
 refine wpAny_execs_cons (thn (h1 pins s σ H D I h) fun f s1 q=>?_)
 cases f with
 | next=>exact wpAny_execs_nil q
 | ret v=>exact q
 | brk=>exact q
 | cont=>exact q
theorem Inv.quiet {pins:List (Addr × Obj)}{σ:St}{H:Hp}{s:Shared}(I:Inv X pins σ H s):interactive X.env=false:=by simp [interactive,I.ok.kind]
def tDrop (te:TE):TS:=fun D σ H=>te σ H fun _ H1=>D.nx σ H1
theorem qbZ (he:PE X e te)(hs:swapsWith e none pos.line X.env=pure false:=by rfl):PS X (.Expr e pos) (tDrop te):=by
 intro pins s σ H D I h
 exact wpAny_Expr_any (thn (he pins s σ H _ I h) fun v s1 ⟨x,H1,I1,r1,q1⟩=>⟨σ,H1,I1,q1⟩) I.quiet hs
def tRet (te:TE):TS:=fun D σ H=>te σ H D.rt
theorem qan (he:PE X e te):PS X (.Return (some e) pos) (tRet te):=by
 intro pins s σ H D I h
 exact wpAny_Return_some (thn (he pins s σ H _ I h) fun v s1 ⟨x,H1,I1,r1,q1⟩=>⟨x,σ,H1,I1,r1,q1⟩)
def tIfS (c:TT)(t u:TS):TS:=fun D σ H=>c σ H fun b H1=>if b=true then t D σ H1 else u D σ H1
theorem qbj {c:Expr}{a b:List Stmt}{tc:TT}(hc:PT X c tc)(ha:PSs X a t)(hb:PSs X b u):PS X (.If c a b pos) (tIfS tc t u):=by
 intro pins s σ H D I h
 refine wpAny_If (thn (hc pins s σ H _ I h) fun d s1 ⟨H1,I1,q1⟩=>?_)
 cases d with
 | true=>exact ha pins s1 σ H1 D I1 q1
 | false=>exact hb pins s1 σ H1 D I1 q1
def qmK:TS:=fun _ _ _=>False
theorem qj3:PS X st qmK:=fun _ _ _ _ _ _ h=>h.elim
end
abbrev TG:=V->St->Hp->(St->Hp->Prop)->Prop
abbrev TGs:=List V->St->Hp->(St->Hp->Prop)->Prop
def PG (X:Cx)(target:Expr)(t:TG):Prop :=
 ∀ (pins:List (Addr × Obj)) (s:Shared) (σ:St) (H:Hp) (v:V) (u:Value) (Q:St->Hp->Prop),Inv X pins σ H s->RelV v u->t v σ H Q ->
  wpAny (model X.prog X.w) X.A (assign target X.env u) (fun _ s'=>∃ σ' H',Inv X pins σ' H' s'/\Q σ' H') X.xe s
def PGs (X:Cx)(ts:List Expr)(t:TGs):Prop :=
 ∀ (pins:List (Addr × Obj)) (s:Shared) (σ:St) (H:Hp) (vs:List V) (us:List Value) (Q:St->Hp->Prop),Inv X pins σ H s->Vals vs us->t vs σ H Q ->
  wpAny (model X.prog X.w) X.A (assignInOrder ((assignEach ts X.env).map (·.2)) us) (fun _ s'=>∃ σ' H',Inv X pins σ' H' s'/\Q σ' H') X.xe s
abbrev TSet:=V->V->V->Hp->(Hp->Prop)->Prop
def PSet (X:Cx)(t:TSet):Prop :=
 ∀ (pins:List (Addr × Obj)) (s:Shared) (σ:St) (H:Hp) (o i v:V) (ov iv u:Value) (Q:Hp->Prop),Inv X pins σ H s->RelV o ov->RelV i iv->RelV v u->t o i v H Q ->
  wpAny (model X.prog X.w) X.A (setItem ov iv u) (fun _ s'=>∃ H',Inv X pins σ H' s'/\Q H') X.xe s
abbrev TIp:=V->V->Hp->VK->Prop
def PIp (X:Cx)(op:Operator)(t:TIp):Prop :=
 ∀ (pins:List (Addr × Obj)) (s:Shared) (σ:St) (H:Hp) (x y:V) (v u:Value) (Q:VK),Inv X pins σ H s->RelV x v->RelV y u->t x y H Q ->
  wpAny (model X.prog X.w) X.A (inplaceOp op v u) (EP X pins σ Q) X.xe s
section
variable {X:Cx}{pos:Pos}
def qky (i:Nat):TG:=fun v σ H Q=>Q (σ.set i (some v)) H
theorem pG {i:Nat}{x:Str}(hN:X.N.Nodup)(hi:X.N[i]?=some x)(hx:Loc X.env.scope x)(hf:X.fn x=true\/X.env.scope.names.lookup x=some .local:=by first | exact .inl rfl | exact .inr rfl | assumption):PG X (.Name x pos) (qky i):=by
 intro pins s σ H v u Q I r h
 exact wpAny_assign_Name (qcg I hN hi hx r (fun s' I'=>⟨_,H,I',h⟩) hf)
def gNil:TGs:=fun vs σ H Q=>vs=[]/\Q σ H
def gCons (t:TG)(u:TGs):TGs:=fun vs σ H Q=>∃ v r,vs=v :: r/\t v σ H fun σ' H'=>u r σ' H' Q
theorem qaX:PGs X [] gNil:=by
 intro pins s σ H vs us Q I r h
 obtain ⟨e,h⟩:=h
 subst e
 cases r
 exact assignInOrder_nil ⟨σ,H,I,h⟩
theorem qaf {e:Expr}{es:List Expr}{t:TG}{u:TGs}(h1:PG X e t)(h2:PGs X es u)
  (hs:(assignEach (e :: es) X.env).map (·.2)=assign e X.env :: (assignEach es X.env).map (·.2):=by rfl):PGs X (e :: es) (gCons t u):=by
 intro pins s σ H vs us Q I r h
 obtain ⟨v,vr,e1,h⟩:=h
 subst e1
 cases r with
 | cons r rr =>
  rw [hs]
  refine assignInOrder_cons (thn (h1 pins s σ H _ _ _ I r h) fun _ s1 ⟨σ1,H1,I1,q1⟩=>?_)
  exact h2 pins s1 σ1 H1 _ _ Q I1 rr q1
def gTup (K:PySem.W.Frag)(n:Nat)(t:TGs):TG:=fun v σ H Q=>∃ a xs,v = .ref a/\SqT K H a xs/\xs.length=n/\t xs σ H Q
theorem qcT {es:List Expr}{k:Nat}{t:TGs}{n:Nat}(hc:X.calm=true)(h:PGs X es t)
  (hn:(assignEach es X.env).length=n:=by rfl) (hst:(assignEach es X.env).findIdx? (·.1)=none:=by rfl):PG X (.Tuple es k pos) (gTup X.K n t):=by
 intro pins s σ H v u Q I r hw
 obtain ⟨a,xs,e1,hq,hl,hw⟩:=hw
 subst e1
 cases r
 obtain ⟨its,rv,ht,hz⟩:=I.tuple hq
 refine assign_Tuple_tuple (I.ok.hd hc) ht (by simp [hn,<- hl,rv.length]) hst fun h' hx=>?_
 have I1:Inv X pins σ H { s with heap:=h' }:=I.kept (t':=s.toks) fun b o e=>hx b o (Nat.ne_of_lt (Heap.lt_size e)) e
 exact h pins _ σ H xs _ Q I1 (by simpa using rv) hw
def gSub (to ti:TE)(t:TSet):TG:=fun v σ H Q=>to σ H fun o H1=>ti σ H1 fun i H2=>t o i v H2 fun H3=>Q σ H3
theorem qm7 {o i:Expr}{to ti:TE}{t:TSet}(ho:PE X o to)(hi:PE X i ti)(hs:PSet X t)
  (ha:∀ v,assign (.Subscript o i pos) X.env v=(do
    let ov <- holding [v] (eval o X.env)
    let iv <- holding [v,ov] (eval i X.env)
    standAt pos
    holding [v,ov,iv] (setItem ov iv v)
    release [v,ov,iv] []):=by intro _; rfl):PG X (.Subscript o i pos) (gSub to ti t):=by
 intro pins s σ H v u Q I r h
 rw [ha]
 refine wpAny_bind (wpAny_holding (thn (ho pins s σ H _ I h) fun ov s1 ⟨x,H1,I1,r1,q1⟩=>?_))
 refine wpAny_bind (wpAny_holding (thn (hi pins s1 σ H1 _ I1 q1) fun iv s2 ⟨y,H2,I2,r2,q2⟩=>?_))
 refine wpAny_bind (wpAny_standAt (wpAny_bind (wpAny_holding (thn (hs pins s2 σ H2 x y v ov iv u _ I2 r1 r2 r q2) fun _ s3 ⟨H3,I3,q3⟩=>?_))))
 exact wpAny_release ⟨σ,H3,I3,q3⟩
def tAsg (te:TE)(g:TG):TS:=fun D σ H=>te σ H fun x H1=>g x σ H1 D.nx
theorem qgD {tg e:Expr}{te:TE}{g:TG}(he:PE X e te)(hg:PG X tg g)(hs:swapsWithSole [tg] e pos.line X.env=pure false:=by rfl)(hw:swappedStores [tg] e X.env=pure none:=by rfl)
  (h1:(assignEach [tg] X.env).map (·.2)=[assign tg X.env]:=by rfl):PS X (.Assign [tg] e pos) (tAsg te g):=by
 intro pins s σ H D I h
 refine wpAny_Assign_stores (thn (he pins s σ H _ I h) fun v s1 ⟨x,H1,I1,r1,q1⟩=>?_) hs hw
 rw [h1]
 exact thn (hg pins s1 σ H1 x v _ I1 r1 q1) fun _ s2 q=>q
theorem pZ {i:Nat}{x:Str}{e:Expr}{te:TE}{pos':Pos}(hN:X.N.Nodup)(hi:X.N[i]?=some x)(hx:Loc X.env.scope x)(he:PE X e te)(hs:swapsWith e (some (.Name x pos')) pos.line X.env=pure false:=by rfl)(hf:X.fn x=true\/X.env.scope.names.lookup x=some .local:=by first | exact .inl rfl | exact .inr rfl | assumption) :
  PS X (.Assign [.Name x pos'] e pos) (tAsg te (qky i)):=by
 intro pins s σ H D I h
 refine wpAny_Assign_Name (thn (he pins s σ H _ I h) fun v s1 ⟨y,H1,I1,r1,q1⟩=>?_) hs
 exact qcg I1 hN hi hx r1 (fun s2 I2=>⟨_,H1,I2,q1⟩) hf
def tPar (i j:Nat)(ta:TA):TS:=fun D σ H=>ta σ H fun vs H1=>∃ v w,vs=[v,w]/\D.nx ((σ.set i (some v)).set j (some w)) H1
theorem qgC {i j:Nat}{x y:Str}{a b:Expr}{ta:TA}{px py pt:Pos}{kt k2 pt2}(hc:X.calm=true)(hN:X.N.Nodup)(hi:X.N[i]?=some x)(hj:X.N[j]?=some y)(hij:i≠j)
  (hx:X.env.scope.names.lookup x=some .local) (hy:X.env.scope.names.lookup y=some .local) (ha:PA X [a,b] ta)
  (hw:swappedStores [.Tuple [.Name x px,.Name y py] kt pt] (.Tuple [a,b] k2 pt2) X.env=pure (some [x,y]))
  (hs:swapsWithSole [.Tuple [.Name x px,.Name y py] kt pt] (.Tuple [a,b] k2 pt2) pos.line X.env=pure false:=by rfl) :
  PS X (.Assign [.Tuple [.Name x px,.Name y py] kt pt] (.Tuple [a,b] k2 pt2) pos) (tPar i j ta):=by
 intro pins s σ H D I h
 rw [exec_Assign_arm]
 refine wpAny_bind (wpAny_standAt ?_)
 rw [hs]
 refine wpAny_bind (wpAny_pure ?_)
 rw [if_neg (by decide)]
 refine wpAny_bind (Tuple_ (thn (ha _ pins s σ H _ I h) fun us s1 ⟨vs,H1,I1,r1,q1⟩=>?_))
 obtain ⟨v,w,e1,q1⟩:=q1
 subst e1
 obtain ⟨u1,u2,rfl,rv,rw'⟩:∃ u1 u2,us=[u1,u2]/\RelV v u1/\RelV w u2:=by
  cases r1 with
  | cons p q =>
   cases q with
   | cons p' q' =>
    cases q'
    exact ⟨_,_,rfl,p,p'⟩
 refine wpAny_newObj_type ?_ (by show 2≤sizeLine; decide)
 have I2:Inv X pins σ H1 { s1 with heap:=s1.heap.push { cls := .type "tuple",data := .seq [u1,u2].toArray } }:=I1.kept (t':=s1.toks) fun b o e=>Heap.get?_push_of_some _ e
 rw [hw]
 refine wpAny_bind (wpAny_pure ?_)
 show wpAny (model X.prog X.w) X.A (do rule "assign.swapped-stores"; let items <- unpackItems (.ref s1.heap.objs.size) 2 none; assignInOrder [fun v=>bindName X.env y v,fun v=>bindName X.env x v] items.reverse; pure Flow.next) _ _ _
 refine wpAny_bind (wpAny_rule (wpAny_bind (unpackItems_tuple (items:=#[u1,u2]) (I.ok.hd hc) (IsTup.new s1.heap _) fun h' hx'=>?_)))
 have I3:=I2.kept (h':=h') (t':=s1.toks) fun b o e=>hx' b o (Nat.ne_of_lt (Heap.lt_size e)) e
 show wpAny _ _ (assignInOrder [fun v=>bindName X.env y v,fun v=>bindName X.env x v] [u2,u1] >>= fun _=>pure Flow.next) _ _ _
 refine wpAny_bind (assignInOrder_cons (wpAny_bindName (qcg I3 hN hj (.inl hy) rw' (fun s2 I4=>?_) (.inr hy))))
 refine assignInOrder_cons (wpAny_bindName (qcg I4 hN hi (.inl hx) rv (fun s3 I5=>assignInOrder_nil (wpAny_pure ?_)) (.inr hx)))
 rw [List.set_comm _ _ (Ne.symm hij)] at I5
 exact ⟨_,H1,I5,q1⟩
def tAugS (to ti te:TE)(tget:V->V->Hp->VK->Prop)(tip:TIp)(tset:TSet):TS:=fun D σ H=>to σ H fun o H1=>ti σ H1 fun i H2=>tget o i H2 fun x H3=>te σ H3 fun y H4=>tip x y H4 fun z H5=>tset o i z H5 fun H6=>D.nx σ H6
def PGet (X:Cx)(t:V->V->Hp->VK->Prop):Prop :=
 ∀ (pins:List (Addr × Obj)) (s:Shared) (σ:St) (H:Hp) (o i:V) (ov iv:Value) (Q:VK),Inv X pins σ H s->RelV o ov->RelV i iv->t o i H Q ->
  wpAny (model X.prog X.w) X.A (getItem ov iv) (EP X pins σ Q) X.xe s
theorem qfM {o i e:Expr}{to ti te:TE}{tget:V->V->Hp->VK->Prop}{tip:TIp}{tset:TSet}{op:Operator}{tpos:Pos}(ho:PE X o to)(hi:PE X i ti)(hg:PGet X tget)(he:PE X e te)(hp:PIp X op tip)(hs:PSet X tset)
  (ha:∀ ov iv new,augStore i ov iv new=(do holding [new,ov,iv] (setItem ov iv new); release [new,ov,iv] []; pure .next):=by intros; rfl):PS X (.AugAssign (.Subscript o i tpos) op e pos) (tAugS to ti te tget tip tset):=by
 intro pins s σ H D I h
 refine wpAny_AugAssign_SubscriptAny (thn (ho pins s σ H _ I h) fun ov s1 ⟨x1,H1,I1,r1,q1⟩=>?_) ha
 refine thn (hi pins s1 σ H1 _ I1 q1) fun iv s2 ⟨x2,H2,I2,r2,q2⟩=>?_
 refine thn (hg pins s2 σ H2 x1 x2 ov iv _ I2 r1 r2 q2) fun old s3 ⟨x3,H3,I3,r3,q3⟩=>?_
 refine thn (he pins s3 σ H3 _ I3 q3) fun v s4 ⟨x4,H4,I4,r4,q4⟩=>?_
 refine thn (hp pins s4 σ H4 x3 x4 old v _ I4 r3 r4 q4) fun new s5 ⟨x5,H5,I5,r5,q5⟩=>?_
 exact thn (hs pins s5 σ H5 x1 x2 x5 ov iv new _ I5 r1 r2 r5 q5) fun _ s6 ⟨H6,I6,q6⟩=>⟨σ,H6,I6,q6⟩
def ipI (f:Int->Int->Int):TIp:=fun x y H Q=>∃ i j,x = .int i/\y = .int j/\Q (.int (f i j)) H
theorem qiZ:PIp X .Add (ipI fun i j=>i + j):=by
 intro pins s σ H x y v u Q I r1 r2 h
 obtain ⟨i,j,e1,e2,q⟩:=h
 subst e1; subst e2
 obtain ⟨t,rfl⟩:=r1
 obtain ⟨t',rfl⟩:=r2
 exact iadd_int ⟨.int _,H,I.tok _,⟨_,rfl⟩,q⟩
end
section
variable {X:Cx}{pos:Pos}
def qkQ (c:TT)(tb:TS):TS:=fun D σ H=>∃ W:Nat->St->Hp->Prop,(∃ m,W m σ H)/\∀ m σ H,W m σ H ->
 c σ H fun b H1=>if b=true then ∃ N:St->Hp->Prop,(∀ σ' H',N σ' H'->∃ m',m' < m/\W m' σ' H')/\tb { D with nx:=N,ct:=N,bk:=D.nx } σ H1 else D.nx σ H1
theorem qgB {c:Expr}{body:List Stmt}{tc:TT}{tb:TS}(hp:PassesOwn (model X.prog X.w) X.A X.env X.xe)(hc:PT X c tc)(hb:PSs X body tb):PS X (.While c body [] pos) (qkQ tc tb):=by
 intro pins s σ H D I h
 obtain ⟨W,⟨m0,w0⟩,turn⟩:=h
 refine wpAny_While (codeAny_whileLoop (fun n s'=>∃ σ' H',Inv X pins σ' H' s'/\W n σ' H') ?_ m0 ⟨σ,H,I,w0⟩)
 rintro n s1 ⟨σ1,H1,I1,w1⟩
 refine wpAny_passesOwn hp (thn (hc pins s1 σ1 H1 _ I1 (turn n σ1 H1 w1)) fun b s2 ⟨H2,I2,q2⟩=>?_)
 cases b with
 | true =>
  obtain ⟨N,hN,q2⟩:=q2
  rw [if_pos rfl]
  refine wpAny_passesOwn hp (thn (hb pins s2 σ1 H2 _ I2 q2) fun f s3 q3=>?_)
  cases f with
  | next =>
   obtain ⟨σ3,H3,I3,n3⟩:=q3
   obtain ⟨m',hm,w3⟩:=hN σ3 H3 n3
   exact ⟨m',hm,σ3,H3,I3,w3⟩
  | cont =>
   obtain ⟨σ3,H3,I3,n3⟩:=q3
   obtain ⟨m',hm,w3⟩:=hN σ3 H3 n3
   exact ⟨m',hm,σ3,H3,I3,w3⟩
  | brk=>exact q3
  | ret v=>exact q3
 | false =>
  rw [if_neg Bool.false_ne_true]
  exact wpAny_execs_nil ⟨σ1,H2,I2,q2⟩
end
structure It where
 go:Nat->Hp->Prop
 yld:Nat->Hp->V->Hp->Prop
 stop:Nat->Hp->Prop
def FpOk (X:Cx)(pins:List (Addr × Obj))(H:Hp)(b:Addr):Prop :=
 H b=none/\b≠X.env.locals/\b ∉ X.fs/\(b∈X.ex\/X.s₀.heap.objs.size≤b)/\(∀ x c,X.env.cells.lookup x=some c->c≠b)/\∀ p∈X.pn ++ pins,p.1≠b
theorem Inv.fpOk {X:Cx}{pins:List (Addr × Obj)}{σ:St}{H H':Hp}{s:Shared}{b:Addr}(I:Inv X pins σ H s)(hb:s.heap.objs.size≤b)(hn:H' b=none):FpOk X pins H' b:=by
 refine ⟨hn,Nat.ne_of_gt (Nat.lt_of_lt_of_le I.lt hb),I.nofs hb,.inr (Nat.le_trans I.sz hb),fun x c e z=>?_,fun p hp z=>?_⟩
 ·obtain ⟨v,q⟩:=I.cell x c e
  exact absurd (Nat.lt_of_lt_of_le q.lt (by rw [z]; exact hb)) (Nat.lt_irrefl _)
 ·exact absurd (Nat.lt_of_lt_of_le (Heap.lt_size (I.pin p hp).1) (by rw [z]; exact hb)) (Nat.lt_irrefl _)
structure Turn (P:Program)(w:World)(K:PySem.W.Frag)(tg:Expr)(J:It)(fp:List Addr)(it:Addr)(tn:Nat->Heap->Prop):Prop where
 mem:it∈fp
 obj:∀ i h,tn i h->∀ b∈fp,∃ o,h.get? b=some o/\∀ v,o.data ≠ .cell v
 keep:∀ i h h',tn i h->(∀ b∈fp,∀ o,h.get? b=some o->h'.get? b=some o)->tn i h'
 item:∀ (X:Cx),X.prog=P->X.w=w->X.K=K->X.calm=true->∀ (i:Nat) (pins:List (Addr × Obj)) (s:Shared) (σ:St) (H:Hp) (E:Value->Shared->Prop),Inv X pins σ H s->(∀ b∈fp,FpOk X pins H b)->tn i s.heap->J.go i H ->
  wpAny (model P w) X.A (pyNext (.ref it)) (fun r s1=>∃ u,r=some u /\
   wpAny (model P w) X.A (letOwnedTupleGo tg (.ref it) u) (fun _ s2=>∃ x H',Inv X pins σ H' s2/\RelV x u/\J.yld i H x H'/\tn (i + 1) s2.heap/\∀ b∈fp,H' b=none) E s1) E s
 done:∀ (X:Cx),X.prog=P->X.w=w->X.K=K->X.calm=true->∀ (i:Nat) (pins:List (Addr × Obj)) (s:Shared) (σ:St) (H:Hp) (E:Value->Shared->Prop),Inv X pins σ H s->(∀ b∈fp,FpOk X pins H b)->tn i s.heap->J.stop i H ->
  wpAny (model P w) X.A (pyNext (.ref it)) (fun r s1=>r=none/\Inv X pins σ H s1) E s
 self:∀ (A:Around) (i:Nat) (s:Shared) (Q:Value->Shared->Prop) (E:Value->Shared->Prop),tn i s.heap->Q (.ref it) s->wpAny (model P w) A (pyIter (.ref it)) Q E s
abbrev TI:=St->Hp->(It->Hp->Prop)->Prop
def PIE (X:Cx)(pins:List (Addr × Obj))(σ:St)(tg:Expr)(R:It->Hp->Prop)(itv:Value)(s2:Shared):Prop :=
 ∃ (it:Addr) (fp:List Addr) (tn:Nat->Heap->Prop) (J:It) (H':Hp),itv = .ref it/\Inv X pins σ H' s2/\Turn X.prog X.w X.K tg J fp it tn/\tn 0 s2.heap/\(∀ b∈fp,FpOk X pins H' b)/\R J H'
def PI (X:Cx)(tg iter:Expr)(wi:TI):Prop :=
 ∀ (pins:List (Addr × Obj)) (s:Shared) (σ:St) (H:Hp) (R:It->Hp->Prop),Inv X pins σ H s->wi σ H R ->
  wpAny (model X.prog X.w) X.A (eval iter X.env) (fun v s1=>wpAny (model X.prog X.w) X.A (pyIter v) (PIE X pins σ tg R) X.xe s1) X.xe s
theorem qkt {M:Model}{A:Around}{E:Value->Shared->Prop}{s:Shared}{tg:Expr}{it:Addr}{u:Value}{o:Obj}{n:String}{vs:Array Value}{Q:Unit->Shared->Prop}(ho:s.heap.get? it=some o)(hc:o.cls = .type n)(hd:o.data = .fields vs)
  (hn:["enumerate", "zip", "dict_itemiterator", "dict_reverseitemiterator", "odict_iterator", "itertools.zip_longest", "itertools.pairwise"].contains n=false) (hQ:Q () s):wpAny M A (letOwnedTupleGo tg (.ref it) u) Q E s:=by
 unfold letOwnedTupleGo
 cases tg <;> first
  | exact wpAny_pure hQ
  | (cases u <;> first
      | exact wpAny_pure hQ
      | (refine wpAny_bind (wpAny_load ho ?_)
         rw [hc,hd]
         show wpAny M A (if (["enumerate", "zip", "dict_itemiterator", "dict_reverseitemiterator", "odict_iterator", "itertools.zip_longest", "itertools.pairwise"].contains n && vs[0]? == some (rawInt _))=true then _ else _) Q E s
         rw [if_neg (by intro h; rw [hn,Bool.false_and] at h; cases h)]
         exact wpAny_pure hQ))
def Itl (K:PySem.W.Frag)(a:Addr):It :=
 ⟨fun i H=>∃ xs x,SqL K H a xs/\xs[i]?=some x,fun i H x H'=>H'=H/\∀ xs,SqL K H a xs->xs[i]?=some x,fun i H=>∃ xs,SqL K H a xs/\xs.length≤i⟩
def Itt (K:PySem.W.Frag)(a:Addr):It :=
 ⟨fun i H=>∃ xs x,SqT K H a xs/\xs[i]?=some x,fun i H x H'=>H'=H/\∀ xs,SqT K H a xs->xs[i]?=some x,fun i H=>∃ xs,SqT K H a xs/\xs.length≤i⟩
def Itr (lo:Int)(n:Nat):It:=⟨fun i _=>i < n,fun i H x H'=>H'=H/\x = .int (lo + i),fun i _=>n≤i⟩
theorem qhW {P:Program}{w:World}{K:PySem.W.Frag}{tg:Expr}(a it:Addr):Turn P w K tg (Itl K a) [it] it (fun i h=>h.IsListIter it a i) where
 mem:=by simp
 obj:=fun i h st b hb=>by
  have e:b=it:=by simpa using hb
  subst e
  obtain ⟨o,e,c,d⟩:=st
  exact ⟨o,e,fun v z=>by rw [d] at z; cases z⟩
 keep:=fun i h h' st k=>st.at fun o e=>k it (by simp) o e
 item:=by
  intro X hP hw hK hc i pins s σ H E I hf st hg
  subst hP hw hK
  obtain ⟨xs,x,hq,hx⟩:=hg
  obtain ⟨its,rv,p,hz⟩:=I.list hq
  obtain ⟨u,hu,ru⟩:=rv.get hx
  obtain ⟨f0,f1,f2,f3,f4,f5⟩:=hf it (by simp)
  refine wpAny_pyNext_list_item st p.isList (x:=u) (by simpa using hu) fun h' st' sb=>?_
  have I1:Inv X pins σ H { s with heap:=h' }:=I.turned (t':=s.toks) (fun b o hb e=>(sb.2 b hb).trans e) f0 f1 f3 f4 f5
  obtain ⟨o,e,c,d⟩:=id st'
  exact ⟨u,rfl,qkt (s:={ s with heap:=h' }) e c d (by decide) ⟨x,H,I1,ru,⟨rfl,fun ys hy=>by rw [I.list_inj hy hq]; exact hx⟩,st',fun b hb=>(hf b hb).1⟩⟩
 done:=by
  intro X hP hw hK hc i pins s σ H E I hf st hg
  subst hP hw hK
  obtain ⟨xs,hq,hx⟩:=hg
  obtain ⟨its,rv,p,hz⟩:=I.list hq
  obtain ⟨f0,f1,f2,f3,f4,f5⟩:=hf it (by simp)
  have hl:=rv.length
  exact wpAny_pyNext_list_end (I.ok.hd hc) st p.isList (by simp; omega) fun h' eb=>⟨rfl,I.turned (t':=s.toks) (fun b o hb e=>eb b o hb e) f0 f1 f3 f4 f5⟩
 self:=fun _ _ _ _ _ st h=>wpAny_pyIter_listiter st h
theorem qhd {P:Program}{w:World}{K:PySem.W.Frag}{tg:Expr}(a it:Addr):Turn P w K tg (Itt K a) [it] it (fun i h=>h.IsTupleIter it a i) where
 mem:=by simp
 obj:=fun i h st b hb=>by
  have e:b=it:=by simpa using hb
  subst e
  obtain ⟨o,e,c,d⟩:=st
  exact ⟨o,e,fun v z=>by rw [d] at z; cases z⟩
 keep:=fun i h h' st k=>st.at fun o e=>k it (by simp) o e
 item:=by
  intro X hP hw hK hc i pins s σ H E I hf st hg
  subst hP hw hK
  obtain ⟨xs,x,hq,hx⟩:=hg
  obtain ⟨its,rv,p,hz⟩:=I.tuple hq
  obtain ⟨u,hu,ru⟩:=rv.get hx
  obtain ⟨f0,f1,f2,f3,f4,f5⟩:=hf it (by simp)
  refine wpAny_pyNext_tuple_item st (show s.heap.IsTuple a its.toArray from p) (x:=u) (by simpa using hu) fun h' st' sb=>?_
  have I1:Inv X pins σ H { s with heap:=h' }:=I.turned (t':=s.toks) (fun b o hb e=>(sb.2 b hb).trans e) f0 f1 f3 f4 f5
  obtain ⟨o,e,c,d⟩:=id st'
  exact ⟨u,rfl,qkt (s:={ s with heap:=h' }) e c d (by decide) ⟨x,H,I1,ru,⟨rfl,fun ys hy=>by rw [I.tuple_inj hy hq]; exact hx⟩,st',fun b hb=>(hf b hb).1⟩⟩
 done:=by
  intro X hP hw hK hc i pins s σ H E I hf st hg
  subst hP hw hK
  obtain ⟨xs,hq,hx⟩:=hg
  obtain ⟨its,rv,p,hz⟩:=I.tuple hq
  obtain ⟨f0,f1,f2,f3,f4,f5⟩:=hf it (by simp)
  have hl:=rv.length
  exact wpAny_pyNext_tuple_end (I.ok.hd hc) st (show s.heap.IsTuple a its.toArray from p) (by simp; omega) fun h' eb=>⟨rfl,I.turned (t':=s.toks) (fun b o hb e=>eb b o hb e) f0 f1 f3 f4 f5⟩
 self:=fun _ _ _ _ _ st h=>wpAny_pyIter_tupleiter st h
theorem qhe {P:Program}{w:World}{K:PySem.W.Frag}{tg:Expr}(it:Addr)(lo:Int)(n:Nat):Turn P w K tg (Itr lo n) [it] it (fun i h=>IsRangeIter h it (lo + (i:Nat) * 1) ((n:Int) - (i:Nat)) 1) where
 mem:=by simp
 obj:=fun i h st b hb=>by
  have e:b=it:=by simpa using hb
  subst e
  exact ⟨_,st,fun v z=>by
   have z':Data.fields _=Data.cell v:=z
   cases z'⟩
 keep:=fun i h h' st k=>k it (by simp) _ st
 item:=by
  intro X hP hw hK hc i pins s σ H E I hf st hg
  subst hP hw hK
  obtain ⟨f0,f1,f2,f3,f4,f5⟩:=hf it (by simp)
  have W:=Walks.range (prog:=X.prog) (w:=X.w) (I.ok.hd hc) it lo 1 n
  refine W.item i s _ _ hg st fun v h' tk hv st' kk=>?_
  obtain ⟨t,rfl⟩:=hv
  have I1:Inv X pins σ H { s with heap:=h',toks:=tk }:=I.turned (fun b o hb e=>kk b o (by simpa using hb) e) f0 f1 f3 f4 f5
  refine ⟨_,rfl,qkt (s:={ s with heap:=h',toks:=tk }) (n := "range_iterator") st' rfl rfl (by decide) ⟨.int (lo + i),H,I1,⟨t,?_⟩,⟨rfl,rfl⟩,st',fun b hb=>(hf b hb).1⟩⟩
  rw [Int.mul_one]
 done:=by
  intro X hP hw hK hc i pins s σ H E I hf st hg
  subst hP hw hK
  obtain ⟨f0,f1,f2,f3,f4,f5⟩:=hf it (by simp)
  exact wpAny_pyNext_range_end (I.ok.hd hc) st (by have:n≤i:=hg; omega) fun h' eb=>⟨rfl,I.turned (t':=s.toks) (fun b o hb e=>eb b o hb e) f0 f1 f3 f4 f5⟩
 self:=fun _ _ _ _ _ st h=>wpAny_pyIter_rangeiter st h
section
variable {X:Cx}{tg:Expr}
def qnt (K:PySem.W.Frag)(tl:TE):TI:=fun σ H R=>tl σ H fun x H1=>∃ a,x = .ref a/\(∃ xs,SqL K H1 a xs)/\R (Itl K a) H1
def iTup (K:PySem.W.Frag)(tl:TE):TI:=fun σ H R=>tl σ H fun x H1=>∃ a,x = .ref a/\(∃ xs,SqT K H1 a xs)/\R (Itt K a) H1
theorem qa5 {l:Expr}{tl:TE}(hl:PE X l tl):PI X tg l (qnt X.K tl):=by
 intro pins s σ H R I h
 refine thn (hl pins s σ H _ I h) fun v s1 ⟨x,H1,I1,r1,q1⟩=>?_
 obtain ⟨a,e,⟨xs,hq⟩,q⟩:=q1
 subst e
 cases r1
 obtain ⟨its,rv,p,hz⟩:=I1.list hq
 refine wpAny_pyIter_list p.isList ?_
 refine ⟨s1.heap.objs.size,[s1.heap.objs.size],_,_,H1,rfl,I1.kept (t':=s1.toks) fun b o e=>Heap.get?_push_of_some _ e,qhW a _,⟨_,Heap.get?_push_size _ rfl,rfl,rfl⟩,fun b hb=>?_,q⟩
 have e:b=s1.heap.objs.size:=by simpa using hb
 subst e
 exact I1.fpOk (Nat.le_refl _) (I1.hok.fresh (Nat.le_refl _))
theorem qgE {l:Expr}{tl:TE}(hl:PE X l tl):PI X tg l (iTup X.K tl):=by
 intro pins s σ H R I h
 refine thn (hl pins s σ H _ I h) fun v s1 ⟨x,H1,I1,r1,q1⟩=>?_
 obtain ⟨a,e,⟨xs,hq⟩,q⟩:=q1
 subst e
 cases r1
 obtain ⟨its,rv,p,hz⟩:=I1.tuple hq
 refine wpAny_pyIter_tuple (show s1.heap.IsTuple a its.toArray from p) ?_
 refine ⟨s1.heap.objs.size,[s1.heap.objs.size],_,_,H1,rfl,I1.kept (t':=s1.toks) fun b o e=>Heap.get?_push_of_some _ e,qhd a _,⟨_,Heap.get?_push_size _ rfl,rfl,rfl⟩,fun b hb=>?_,q⟩
 have e:b=s1.heap.objs.size:=by simpa using hb
 subst e
 exact I1.fpOk (Nat.le_refl _) (I1.hok.fresh (Nat.le_refl _))
theorem qjX {pins:List (Addr × Obj)}{σ:St}{H:Hp}{s:Shared}{R:It->Hp->Prop}{E:Value->Shared->Prop}{lo hi:Int}{t u v:Tok}{tk:Nat}(I:Inv X pins σ H s)(h1:-(2 ^ 62)≤lo)(h2:lo < 2 ^ 62)(h3:-(2 ^ 62)≤hi)(h4:hi < 2 ^ 62)
  (q:R (Itr lo (hi - lo).toNat) H):wpAny (model X.prog X.w) X.A (pyIter (.ref s.heap.objs.size)) (PIE X pins σ tg R) E { s with heap:=s.heap.push { cls := .type "range",data := .fields #[.int lo t,.int hi u,.int 1 v] },toks:=tk }:=by
 refine wpAny_pyIter_range (IsRange.new ..) (small_one h1 h2 h3 h4) ?_
 have I1:Inv X pins σ H { s with heap:=s.heap.push { cls := .type "range",data := .fields #[.int lo t,.int hi u,.int 1 v] },toks:=tk }:=I.kept fun b o e=>Heap.get?_push_of_some _ e
 refine ⟨(s.heap.push { cls := .type "range",data := .fields #[.int lo t,.int hi u,.int 1 v] }).objs.size,[(s.heap.push { cls := .type "range",data := .fields #[.int lo t,.int hi u,.int 1 v] }).objs.size],_,_,H,rfl,
  I1.kept (t':=tk) fun b o e=>Heap.get?_push_of_some _ e,qhe _ lo (hi - lo).toNat,?_,fun b hb=>?_,q⟩
 ·have e1:lo + ((0:Nat):Int) * 1=lo:=by simp
  have e2:(((hi - lo).toNat:Nat):Int) - ((0:Nat):Int)=Builtin.Range.rangeSize lo hi 1:=by rw [rangeSize_one]; split <;> omega
  show IsRangeIter _ _ (lo + ((0:Nat):Int) * 1) ((((hi - lo).toNat:Nat):Int) - ((0:Nat):Int)) 1
  rw [e1,e2]
  exact Heap.get?_push_size _ rfl
 ·have e:b=(s.heap.push { cls := .type "range",data := .fields #[.int lo t,.int hi u,.int 1 v] }).objs.size:=by simpa using hb
  subst e
  exact I1.fpOk (Nat.le_refl _) (I1.hok.fresh (Nat.le_refl _))
def iRng1 (ta:TA):TI:=fun σ H R=>ta σ H fun vs H1=>∃ j:Int,vs=[.int j]/\-(2 ^ 62)≤j/\j < 2 ^ 62/\R (Itr 0 j.toNat) H1
theorem qbl {a:Expr}{ta:TA}{p pos:Pos}(hg:Gl X "range")(hm:X.mg "range" = none)(ha:PA X [a] ta)(hs:starEach [a] X.env=[(false,eval a X.env)]:=by rfl):PI X tg (.Call (.Name "range" p) [a] [] pos) (iRng1 ta):=by
 intro pins s σ H R I h
 refine Call_ (qfa I hg hm boot_range (PyProof.Rows.callWith_type1 (thn (ha pos pins s σ H _ I h) fun us s1 ⟨vs,H1,I1,r1,q1⟩=>?_) hs rfl))
 obtain ⟨j,e,q1,q2,q⟩:=q1
 subst e
 cases r1 with
 | cons r rr =>
  cases rr
  obtain ⟨t,rfl⟩:=r
  exact call_range_1 (qjX I1 (by omega) (by omega) q1 q2 (by simpa using q))
def tFor (wi:TI)(g:TG)(tb:TS):TS:=fun D σ H=>wi σ H fun J H1=>∃ W:Nat->Nat->St->Hp->Prop,(∃ m,W 0 m σ H1)/\∀ i m σ H,W i m σ H ->
 (J.stop i H/\D.nx σ H)\/(J.go i H/\∃ N:St->Hp->Prop,(∀ σ' H',N σ' H'->∃ m',m' < m/\W (i + 1) m' σ' H')/\∀ x H',J.yld i H x H'->g x σ H' fun σ2 H2=>tb { D with nx:=N,ct:=N,bk:=D.nx } σ2 H2)
def qdQ (fp:List Addr)(h:Heap):List (Addr × Obj):=fp.filterMap fun b=>(h.get? b).map fun o=>(b,o)
theorem qbg {fp:List Addr}{h:Heap}{b:Addr}{o:Obj}(hb:b∈fp)(e:h.get? b=some o):(b,o)∈qdQ fp h:=List.mem_filterMap.mpr ⟨b,hb,by rw [e]; rfl⟩
theorem qiF {fp:List Addr}{h:Heap}{p:Addr × Obj}(hp:p∈qdQ fp h):p.1∈fp/\h.get? p.1=some p.2:=by
 obtain ⟨b,hb,e⟩:=List.mem_filterMap.mp hp
 cases q:h.get? b with
 | none=>rw [q] at e; cases e
 | some o =>
  rw [q] at e
  have e':(b,o)=p:=Option.some.inj e
  subst e'
  exact ⟨hb,q⟩
theorem Inv.pinned {pins:List (Addr × Obj)}{σ:St}{H:Hp}{s:Shared}{fp:List Addr}(I:Inv X pins σ H s)(hf:∀ b∈fp,FpOk X pins H b)(ho:∀ b∈fp,∃ o,s.heap.get? b=some o/\∀ v,o.data ≠ .cell v):Inv X (pins ++ qdQ fp s.heap) σ H s :=
 I.pins_of fun p hp=>(List.mem_append.mp hp).elim (fun z=>I.pin p (List.mem_append_right _ z)) fun z=>by
  obtain ⟨hb,e⟩:=qiF z
  obtain ⟨f0,f1,f2,_⟩:=hf p.1 hb
  obtain ⟨o,e',d⟩:=ho p.1 hb
  rw [e] at e'; cases e'
  exact ⟨e,f0,f1,f2,d⟩
theorem Inv.unpinned {pins pl:List (Addr × Obj)}{σ:St}{H:Hp}{s:Shared}(I:Inv X (pins ++ pl) σ H s):Inv X pins σ H s:=I.pins_of fun p hp=>I.pin p (List.mem_append_right _ (List.mem_append_left _ hp))
theorem qbd {iter:Expr}{body:List Stmt}{wi:TI}{g:TG}{tb:TS}{pos:Pos}(hp:PassesOwn (model X.prog X.w) X.A X.env X.xe)(hc:X.calm=true)(hi:PI X tg iter wi)(hg:PG X tg g)(hb:PSs X body tb)
  (hs:∀ x,foldedSetIterable iter X.env x=pure x:=by intro _; rfl):PS X (.For tg iter body [] pos) (tFor wi g tb):=by
 intro pins s σ H D I h
 refine wpAny_For (thn (hi pins s σ H _ I h) fun v s1 h1=>thn h1 fun itv s2 h2=>?_) hs
 obtain ⟨it,fp,tn,J,H2,e,I2,T,st2,f2,W,⟨m0,w0⟩,turn⟩:=h2
 subst e
 have stat:∀ {H':Hp},(∀ b∈fp,H' b=none)->∀ b∈fp,FpOk X pins H' b:=fun hn b hb=>⟨hn b hb,(f2 b hb).2⟩
 refine codeAny_forLoop_any (fun n s'=>∃ i σ' H',Inv X pins σ' H' s'/\tn i s'.heap/\(∀ b∈fp,H' b=none)/\W i n σ' H') ?_ m0 ⟨0,σ,H2,I2,st2,fun b hb=>(f2 b hb).1,w0⟩
 rintro n s3 ⟨i,σ3,H3,I3,st3,fr3,w3⟩
 rcases turn i n σ3 H3 w3 with ⟨stop,qn⟩ | ⟨go,N,hN,step⟩
 ·refine wpAny_passesOwn hp (thn (T.done X rfl rfl rfl hc i pins s3 σ3 H3 X.xe I3 (stat fr3) st3 stop) fun r s4 ⟨hr,I4⟩=>?_)
  subst hr
  exact wpAny_execs_nil ⟨σ3,H3,I4,qn⟩
 ·refine wpAny_passesOwn hp (thn (T.item X rfl rfl rfl hc i pins s3 σ3 H3 X.xe I3 (stat fr3) st3 go) fun r s4 ⟨u,hr,h4⟩=>?_)
  subst hr
  refine wpAny_passesOwn hp (thn h4 fun _ s5 ⟨x,H5,I5,r5,y5,st5,fr5⟩=>?_)
  have I5':=I5.pinned (stat fr5) (T.obj _ _ st5)
  refine wpAny_passesOwn hp (thn (hg _ s5 σ3 H5 x u _ I5' r5 (step x H5 y5)) fun _ s6 ⟨σ6,H6,I6,q6⟩=>?_)
  refine wpAny_passesOwn hp (thn (hb _ s6 σ6 H6 _ I6 q6) fun f s7 q7=>?_)
  have again:∀ {σ7:St} {H7:Hp},Inv X (pins ++ qdQ fp s5.heap) σ7 H7 s7->N σ7 H7->∃ m,m < n/\∃ i σ' H',Inv X pins σ' H' s7/\tn i s7.heap/\(∀ b∈fp,H' b=none)/\W i m σ' H':=fun {σ7 H7} I7 n7=>by
   obtain ⟨m',hm,w7⟩:=hN σ7 H7 n7
   refine ⟨m',hm,i + 1,σ7,H7,I7.unpinned,T.keep _ _ _ st5 fun b hb o e=>(I7.pin (b,o) (List.mem_append_right _ (List.mem_append_right _ (qbg hb e)))).1,fun b hb=>?_,w7⟩
   obtain ⟨o,e,d⟩:=T.obj _ _ st5 b hb
   exact (I7.pin (b,o) (List.mem_append_right _ (List.mem_append_right _ (qbg hb e)))).2.1
  cases f with
  | next=>obtain ⟨σ7,H7,I7,n7⟩:=q7; exact again I7 n7
  | cont=>obtain ⟨σ7,H7,I7,n7⟩:=q7; exact again I7 n7
  | brk=>obtain ⟨σ7,H7,I7,q7⟩:=q7; exact ⟨σ7,H7,I7.unpinned,q7⟩
  | ret v=>obtain ⟨x7,σ7,H7,I7,r7,q7⟩:=q7; exact ⟨x7,σ7,H7,I7.unpinned,r7,q7⟩
end
theorem qew {K:PySem.W.Frag}{a:Addr}{xs:List V}{g:TG}{tb:TS}{D:Ends}{σ:St}{H:Hp}(Pv:Nat->St->Hp->Prop)(h0:Pv 0 σ H)(hl:∀ i σ H,i≤xs.length->Pv i σ H->SqL K H a xs)
  (hs:∀ i x σ H,xs[i]?=some x->Pv i σ H->g x σ H fun σ2 H2=>tb { D with nx:=Pv (i + 1),ct:=Pv (i + 1),bk:=D.nx } σ2 H2) (hd:∀ σ H,Pv xs.length σ H->D.nx σ H) :
  ∃ W:Nat->Nat->St->Hp->Prop,(∃ m,W 0 m σ H)/\∀ i m σ H,W i m σ H ->
   ((Itl K a).stop i H/\D.nx σ H)\/((Itl K a).go i H/\∃ N:St->Hp->Prop,(∀ σ' H',N σ' H'->∃ m',m' < m/\W (i + 1) m' σ' H')/\∀ x H',(Itl K a).yld i H x H'->g x σ H' fun σ2 H2=>tb { D with nx:=N,ct:=N,bk:=D.nx } σ2 H2):=by
 refine ⟨fun i m σ H=>m=xs.length - i/\i≤xs.length/\Pv i σ H,⟨xs.length,by simp,Nat.zero_le _,h0⟩,?_⟩
 rintro i m σ H ⟨rfl,hi,p⟩
 have q:=hl i σ H hi p
 by_cases hlt:i < xs.length
 ·refine .inr ⟨⟨xs,xs[i],q,by simp [hlt]⟩,Pv (i + 1),fun σ' H' p'=>⟨xs.length - (i + 1),by omega,rfl,hlt,p'⟩,fun x H' y=>?_⟩
  obtain ⟨e,y⟩:=y
  subst e
  exact hs i x σ _ (y xs q) p
 ·have e:i=xs.length:=by omega
  subst e
  exact .inl ⟨⟨xs,q,Nat.le_refl _⟩,hd σ H p⟩
theorem qja {K:PySem.W.Frag}{a:Addr}{xs:List V}{g:TG}{tb:TS}{D:Ends}{σ:St}{H:Hp}(Pv:Nat->St->Hp->Prop)(h0:Pv 0 σ H)(hl:∀ i σ H,i≤xs.length->Pv i σ H->SqT K H a xs)
  (hs:∀ i x σ H,xs[i]?=some x->Pv i σ H->g x σ H fun σ2 H2=>tb { D with nx:=Pv (i + 1),ct:=Pv (i + 1),bk:=D.nx } σ2 H2) (hd:∀ σ H,Pv xs.length σ H->D.nx σ H) :
  ∃ W:Nat->Nat->St->Hp->Prop,(∃ m,W 0 m σ H)/\∀ i m σ H,W i m σ H ->
   ((Itt K a).stop i H/\D.nx σ H)\/((Itt K a).go i H/\∃ N:St->Hp->Prop,(∀ σ' H',N σ' H'->∃ m',m' < m/\W (i + 1) m' σ' H')/\∀ x H',(Itt K a).yld i H x H'->g x σ H' fun σ2 H2=>tb { D with nx:=N,ct:=N,bk:=D.nx } σ2 H2):=by
 refine ⟨fun i m σ H=>m=xs.length - i/\i≤xs.length/\Pv i σ H,⟨xs.length,by simp,Nat.zero_le _,h0⟩,?_⟩
 rintro i m σ H ⟨rfl,hi,p⟩
 have q:=hl i σ H hi p
 by_cases hlt:i < xs.length
 ·refine .inr ⟨⟨xs,xs[i],q,by simp [hlt]⟩,Pv (i + 1),fun σ' H' p'=>⟨xs.length - (i + 1),by omega,rfl,hlt,p'⟩,fun x H' y=>?_⟩
  obtain ⟨e,y⟩:=y
  subst e
  exact hs i x σ _ (y xs q) p
 ·have e:i=xs.length:=by omega
  subst e
  exact .inl ⟨⟨xs,q,Nat.le_refl _⟩,hd σ H p⟩
theorem qbK {lo:Int}{n:Nat}{g:TG}{tb:TS}{D:Ends}{σ:St}{H:Hp}(Pv:Nat->St->Hp->Prop)(h0:Pv 0 σ H)
  (hs:∀ i σ H,i < n->Pv i σ H->g (.int (lo + i)) σ H fun σ2 H2=>tb { D with nx:=Pv (i + 1),ct:=Pv (i + 1),bk:=D.nx } σ2 H2) (hd:∀ σ H,Pv n σ H->D.nx σ H) :
  ∃ W:Nat->Nat->St->Hp->Prop,(∃ m,W 0 m σ H)/\∀ i m σ H,W i m σ H ->
   ((Itr lo n).stop i H/\D.nx σ H)\/((Itr lo n).go i H/\∃ N:St->Hp->Prop,(∀ σ' H',N σ' H'->∃ m',m' < m/\W (i + 1) m' σ' H')/\∀ x H',(Itr lo n).yld i H x H'->g x σ H' fun σ2 H2=>tb { D with nx:=N,ct:=N,bk:=D.nx } σ2 H2):=by
 refine ⟨fun i m σ H=>m=n - i/\i≤n/\Pv i σ H,⟨n,by simp,Nat.zero_le _,h0⟩,?_⟩
 rintro i m σ H ⟨rfl,hi,p⟩
 by_cases hlt:i < n
 ·refine .inr ⟨hlt,Pv (i + 1),fun σ' H' p'=>⟨n - (i + 1),by omega,rfl,hlt,p'⟩,fun x H' y=>?_⟩
  obtain ⟨e,y⟩:=y
  subst e y
  exact hs i σ _ hlt p
 ·have e:i=n:=by omega
  subst e
  exact .inl ⟨Nat.le_refl _,hd σ H p⟩
theorem qgc {c:TT}{tb:TS}{D:Ends}{σ:St}{H:Hp}(Pv:St->Hp->Prop)(μ:St->Hp->Nat)(h0:Pv σ H)
  (hs:∀ σ H,Pv σ H->c σ H fun b H1=>if b=true then tb { D with nx:=fun σ' H'=>Pv σ' H'/\μ σ' H' < μ σ H,ct:=fun σ' H'=>Pv σ' H'/\μ σ' H' < μ σ H,bk:=D.nx } σ H1 else D.nx σ H1)
  (mono:∀ σ H Q Q',(∀ b H1,Q b H1->Q' b H1)->c σ H Q->c σ H Q'):qkQ c tb D σ H:=by
 refine ⟨fun m σ H=>m=μ σ H/\Pv σ H,⟨_,rfl,h0⟩,?_⟩
 rintro m σ H ⟨rfl,p⟩
 refine mono σ H _ _ (fun b H1 q=>?_) (hs σ H p)
 cases b with
 | true=>exact ⟨_,fun σ' H' ⟨p',l⟩=>⟨_,l,rfl,p'⟩,q⟩
 | false=>exact q
abbrev R2:=V->V->Hp->VK->Prop
def OpR (X:Cx)(f:Value->Value->Sem Value)(r:R2):Prop :=
 ∀ (pins:List (Addr × Obj)) (s:Shared) (σ:St) (H:Hp) (x y:V) (v u:Value) (Q:VK),Inv X pins σ H s->RelV x v->RelV y u->r x y H Q ->
  wpAny (model X.prog X.w) X.A (f v u) (EP X pins σ Q) X.xe s
def UnR (X:Cx)(f:Value->Sem Value)(r:V->Hp->VK->Prop):Prop :=
 ∀ (pins:List (Addr × Obj)) (s:Shared) (σ:St) (H:Hp) (x:V) (v:Value) (Q:VK),Inv X pins σ H s->RelV x v->r x H Q ->
  wpAny (model X.prog X.w) X.A (f v) (EP X pins σ Q) X.xe s
def qb8 (X:Cx)(f:Value)(r:List V->Hp->VK->Prop):Prop :=
 ∀ (pins:List (Addr × Obj)) (s:Shared) (σ:St) (H:Hp) (xs:List V) (us:List Value) (Q:VK),Inv X pins σ H s->Vals xs us->r xs H Q ->
  wpAny (model X.prog X.w) X.A (call f us) (EP X pins σ Q) X.xe s
def tOp (r:R2)(ta tb:TE):TE:=fun σ H Q=>ta σ H fun x H1=>tb σ H1 fun y H2=>r x y H2 Q
def tUn (r:V->Hp->VK->Prop)(ta:TE):TE:=fun σ H Q=>ta σ H fun x H1=>r x H1 Q
def rI (C:Int->Int->Prop)(g:Int->Int->V):R2:=fun x y H Q=>∃ i j,x = .int i/\y = .int j/\C i j/\Q (g i j) H
def rI0 (g:Int->Int->V):R2:=fun x y H Q=>∃ i j,x = .int i/\y = .int j/\Q (g i j) H
def rU (g:Int->V):V->Hp->VK->Prop:=fun x H Q=>∃ i,x = .int i/\Q (g i) H
section
variable {X:Cx}{a b c:Expr}{ta tb tc:TE}{pos:Pos}
theorem binT (ha:PE X a ta)(hb:PE X b tb){pins:List (Addr × Obj)}{s:Shared}{σ:St}{H:Hp}{R:V->V->Hp->Prop}(I:Inv X pins σ H s)
  (h:ta σ H fun x H1=>tb σ H1 fun y H2=>R x y H2) {Q:Value->Shared->Prop} {f:Value->Value->Sem Value}
  (hf:∀ v u s2 x y H2,Inv X pins σ H2 s2->RelV x v->RelV y u->R x y H2->wpAny (model X.prog X.w) X.A (f v u) Q X.xe s2) :
  wpAny (model X.prog X.w) X.A (eval a X.env) (fun v s₁=>wpAny (model X.prog X.w) X.A (eval b X.env) (fun u s₂=>wpAny (model X.prog X.w) X.A (f v u) Q X.xe s₂) X.xe s₁) X.xe s:=by
 refine thn (ha pins s σ H _ I h) fun v s1 ⟨x,H1,I1,r1,q1⟩=>?_
 refine thn (hb pins s1 σ H1 _ I1 q1) fun u s2 ⟨y,H2,I2,r2,q2⟩=>?_
 exact hf v u s2 x y H2 I2 r1 r2 q2
theorem pP {op:Operator}{r:R2}(ho:OpR X (binaryOp op) r)(ha:PE X a ta)(hb:PE X b tb):PE X (.BinOp a op b pos) (tOp r ta tb):=by
 intro pins s σ H Q I h
 exact wpAny_BinOp (binT ha hb I h fun v u s2 x y H2 I2 rx ry q=>ho pins s2 σ H2 x y v u Q I2 rx ry q)
theorem pe_un {op:UnaryOp}{r:V->Hp->VK->Prop}(ho:UnR X (unaryOp op) r)(ha:PE X a ta):PE X (.UnaryOp op a pos) (tUn r ta):=by
 intro pins s σ H Q I h
 exact UnaryOp_ (thn (ha pins s σ H _ I h) fun v s1 ⟨x,H1,I1,r1,q1⟩=>ho pins s1 σ H1 x v Q I1 r1 q1)
theorem opI {f:Value->Value->Sem Value}{C:Int->Int->Prop}{g:Int->Int->Int}
  (rule:∀ (i j:Int) (t u:Tok) (s:Shared) (Q:Value->Shared->Prop) (E:Value->Shared->Prop),C i j->Q (.int (g i j) s.toks) { s with toks:=s.toks + 1 }->wpAny (model X.prog X.w) X.A (f (.int i t) (.int j u)) Q E s) :
  OpR X f (rI C fun i j => .int (g i j)):=by
 intro pins s σ H x y v u Q I rx ry h
 obtain ⟨i,j,rfl,rfl,hc,q⟩:=h
 obtain ⟨t,rfl⟩:=rx
 obtain ⟨t',rfl⟩:=ry
 exact rule i j t t' s _ _ hc ⟨.int (g i j),H,I.tok _,⟨_,rfl⟩,q⟩
theorem opI0 {f:Value->Value->Sem Value}{g:Int->Int->Int}
  (rule:∀ (i j:Int) (t u:Tok) (s:Shared) (Q:Value->Shared->Prop) (E:Value->Shared->Prop),Q (.int (g i j) s.toks) { s with toks:=s.toks + 1 }->wpAny (model X.prog X.w) X.A (f (.int i t) (.int j u)) Q E s) :
  OpR X f (rI0 fun i j => .int (g i j)):=by
 intro pins s σ H x y v u Q I rx ry h
 obtain ⟨i,j,rfl,rfl,q⟩:=h
 obtain ⟨t,rfl⟩:=rx
 obtain ⟨t',rfl⟩:=ry
 exact rule i j t t' s _ _ ⟨.int (g i j),H,I.tok _,⟨_,rfl⟩,q⟩
theorem opB0 {f:Value->Value->Sem Value}{g:Int->Int->Bool}
  (rule:∀ (i j:Int) (t u:Tok) (s:Shared) (Q:Value->Shared->Prop) (E:Value->Shared->Prop),Q (.bool (g i j)) s->wpAny (model X.prog X.w) X.A (f (.int i t) (.int j u)) Q E s) :
  OpR X f (rI0 fun i j => .bl (g i j)):=by
 intro pins s σ H x y v u Q I rx ry h
 obtain ⟨i,j,rfl,rfl,q⟩:=h
 obtain ⟨t,rfl⟩:=rx
 obtain ⟨t',rfl⟩:=ry
 exact rule i j t t' s _ _ ⟨.bl (g i j),H,I,rfl,q⟩
def CDiv (i j:Int):Prop:=0 < j/\j < 1073741824
def CPow (i j:Int):Prop:=0≤j/\j≤1000000/\i.natAbs < 2 ^ 64
def CMul (i j:Int):Prop:=(-(2 ^ 64) < i/\i < 2 ^ 64)\/(-(2 ^ 64) < j/\j < 2 ^ 64)
theorem CMul.ok {i j:Int}(h:CMul i j):IntMulOk i j:=by
 rcases h with ⟨h1,h2⟩ | ⟨h1,h2⟩
 ·exact .of_left (intBits_le_64 h1 h2)
 ·exact .of_right (intBits_le_64 h1 h2)
theorem qaP:OpR X (binaryOp .Add) (rI0 fun i j => .int (i + j)):=opI0 fun _ _ _ _ _ _ _ q=>add_int q
theorem qe3:OpR X (binaryOp .Sub) (rI0 fun i j => .int (i - j)):=opI0 fun _ _ _ _ _ _ _ q=>sub_int q
theorem qcj:OpR X (binaryOp .Mult) (rI CMul fun i j => .int (i * j)):=opI fun _ _ _ _ _ _ _ hc q=>mul_int q hc.ok
theorem qfR:OpR X (binaryOp .FloorDiv) (rI CDiv fun i j => .int (i / j)):=opI fun i j _ _ _ _ _ hc q=>by
 have h1:(0:Int) < j:=hc.1
 have h2:j < 1073741824:=hc.2
 exact floordiv_int (by omega) (by rw [Int.fdiv_eq_ediv_of_nonneg i (by omega)]; exact q) (.inl (PyProof.noPylong_small (by omega)))
theorem qbD:OpR X (binaryOp .Mod) (rI (fun _ j=>0 < j) fun i j => .int (i % j)):=opI fun i j _ _ _ _ _ hc q=>by
 have h1:(0:Int) < j:=hc
 exact mod_int' (by omega) (by rw [Int.fmod_eq_emod_of_nonneg i (by omega)]; exact q)
theorem qna:OpR X (binaryOp .Pow) (rI CPow fun i j => .int (i ^ j.toNat)):=opI fun _ _ _ _ _ _ _ hc q=>pow_int_small hc.1 hc.2.1 hc.2.2 q
theorem unI {f:Value->Sem Value}{g:Int->Int}
  (rule:∀ (i:Int) (t:Tok) (s:Shared) (Q:Value->Shared->Prop) (E:Value->Shared->Prop),Q (.int (g i) s.toks) { s with toks:=s.toks + 1 }->wpAny (model X.prog X.w) X.A (f (.int i t)) Q E s) :
  UnR X f (rU fun i => .int (g i)):=by
 intro pins s σ H x v Q I rx h
 obtain ⟨i,rfl,q⟩:=h
 obtain ⟨t,rfl⟩:=rx
 exact rule i t s _ _ ⟨.int (g i),H,I.tok _,⟨_,rfl⟩,q⟩
theorem qmF:UnR X (unaryOp .USub) (rU fun i => .int (-i)):=unI fun _ _ _ _ _ q=>neg_int q
end
def scal:V->V->Bool
 | .non,.non=>true | .non,.int _=>true | .int _,.non=>true | .non,.bl _=>true | .bl _,.non=>true | .non,.str _=>true | .str _,.non=>true
 | .int _,.int _=>true | .bl _,.bl _=>true | .str _,.str _=>true | .byt _,.byt _=>true
 | .int _,.str _=>true | .str _,.int _=>true | .bl _,.str _=>true | .str _,.bl _=>true
 | _,_=>false
def rEq:R2:=fun x y H Q=>scal x y=true/\Q (.bl (decide (x=y))) H
def rNe:R2:=fun x y H Q=>scal x y=true/\Q (.bl (!decide (x=y))) H
theorem qjl {i j:Int}:decide (V.int i=V.int j)=(i == j):=by
 rw [Bool.eq_iff_iff]
 simp
theorem qlg {i j:Bool}:decide (V.bl i=V.bl j)=(i == j):=by
 rw [Bool.eq_iff_iff]
 simp
theorem qjk {i j:Str}:decide (V.str i=V.str j)=(i == j):=by
 rw [Bool.eq_iff_iff]
 simp
theorem qjm {i j:Array UInt8}:decide (V.byt i=V.byt j)=(i.toList == j.toList):=by
 rw [Bool.eq_iff_iff]
 cases i
 cases j
 simp
section
variable {X:Cx}{a b c:Expr}{ta tb tc:TE}{pos:Pos}
theorem qay {pins:List (Addr × Obj)}{σ:St}{H:Hp}{s:Shared}{Q:VK}{k k':Bool}(I:Inv X pins σ H s)(q:Q (.bl k) H)(e:k=k'):EP X pins σ Q (.bool k') s:=by
 subst e
 exact ⟨.bl k,H,I,rfl,q⟩
theorem qfS:OpR X (compareOp .Eq) rEq:=by
 intro pins s σ H x y v u Q I rx ry h
 obtain ⟨hs,q⟩:=h
 cases x with
 | non =>
  cases rx
  cases y with
  | non=>cases ry; exact PySem.EqNone.eq_none_none (qay I q (by simp))
  | bl j=>cases ry; exact PySem.EqNone.eq_none_bool (qay I q (by simp))
  | int j=>obtain ⟨t',rfl⟩:=ry; exact PySem.EqNone.eq_none_int (qay I q (by simp))
  | str j=>obtain ⟨t',rfl⟩:=ry; exact PySem.EqNone.eq_none_str (qay I q (by simp))
  | _=>exact absurd (show false=true from hs) Bool.false_ne_true
 | bl i =>
  cases rx
  cases y with
  | non=>cases ry; exact PySem.EqNone.eq_bool_none (qay I q (by simp))
  | bl j=>cases ry; exact eq_bool (qay I q qlg)
  | str j=>obtain ⟨t',rfl⟩:=ry; exact PySem.EqMixed.eq_bool_str (qay I q (by simp))
  | _=>exact absurd (show false=true from hs) Bool.false_ne_true
 | int i =>
  obtain ⟨t,rfl⟩:=rx
  cases y with
  | non=>cases ry; exact PySem.EqNone.eq_int_none (qay I q (by simp))
  | int j=>obtain ⟨t',rfl⟩:=ry; exact eq_int (qay I q qjl)
  | str j=>obtain ⟨t',rfl⟩:=ry; exact PySem.EqMixed.eq_int_str (qay I q (by simp))
  | _=>exact absurd (show false=true from hs) Bool.false_ne_true
 | str i =>
  obtain ⟨t,rfl⟩:=rx
  cases y with
  | non=>cases ry; exact PySem.EqNone.eq_str_none (qay I q (by simp))
  | bl j=>cases ry; exact PySem.EqMixed.eq_str_bool (qay I q (by simp))
  | int j=>obtain ⟨t',rfl⟩:=ry; exact PySem.EqMixed.eq_str_int (qay I q (by simp))
  | str j=>obtain ⟨t',rfl⟩:=ry; exact eq_str (qay I q qjk)
  | _=>exact absurd (show false=true from hs) Bool.false_ne_true
 | byt i =>
  obtain ⟨t,rfl⟩:=rx
  cases y with
  | byt j=>obtain ⟨t',rfl⟩:=ry; exact PySem.W.eq_bytes (qay I q qjm)
  | _=>exact absurd (show false=true from hs) Bool.false_ne_true
 | _=>cases y <;> exact absurd (show false=true from hs) Bool.false_ne_true
theorem qen:OpR X (compareOp .NotEq) rNe:=by
 intro pins s σ H x y v u Q I rx ry h
 obtain ⟨hs,q⟩:=h
 cases x with
 | non =>
  cases rx
  cases y with
  | non=>cases ry; exact PySem.EqNone.ne_none_none (qay I q (by simp))
  | bl j=>cases ry; exact PySem.EqNone.ne_none_bool (qay I q (by simp))
  | int j=>obtain ⟨t',rfl⟩:=ry; exact PySem.EqNone.ne_none_int (qay I q (by simp))
  | str j=>obtain ⟨t',rfl⟩:=ry; exact PySem.EqNone.ne_none_str (qay I q (by simp))
  | _=>exact absurd (show false=true from hs) Bool.false_ne_true
 | bl i =>
  cases rx
  cases y with
  | non=>cases ry; exact PySem.EqNone.ne_bool_none (qay I q (by simp))
  | bl j=>cases ry; exact ne_bool (qay I q (congrArg not qlg))
  | str j=>obtain ⟨t',rfl⟩:=ry; exact PySem.EqMixed.ne_bool_str (qay I q (by simp))
  | _=>exact absurd (show false=true from hs) Bool.false_ne_true
 | int i =>
  obtain ⟨t,rfl⟩:=rx
  cases y with
  | non=>cases ry; exact PySem.EqNone.ne_int_none (qay I q (by simp))
  | int j=>obtain ⟨t',rfl⟩:=ry; exact ne_int (qay I q (congrArg not qjl))
  | str j=>obtain ⟨t',rfl⟩:=ry; exact PySem.EqMixed.ne_int_str (qay I q (by simp))
  | _=>exact absurd (show false=true from hs) Bool.false_ne_true
 | str i =>
  obtain ⟨t,rfl⟩:=rx
  cases y with
  | non=>cases ry; exact PySem.EqNone.ne_str_none (qay I q (by simp))
  | bl j=>cases ry; exact PySem.EqMixed.ne_str_bool (qay I q (by simp))
  | int j=>obtain ⟨t',rfl⟩:=ry; exact PySem.EqMixed.ne_str_int (qay I q (by simp))
  | str j=>obtain ⟨t',rfl⟩:=ry; exact ne_str (qay I q (congrArg not qjk))
  | _=>exact absurd (show false=true from hs) Bool.false_ne_true
 | byt i =>
  obtain ⟨t,rfl⟩:=rx
  cases y with
  | byt j=>obtain ⟨t',rfl⟩:=ry; exact PySem.W.ne_bytes (qay I q (congrArg not qjm))
  | _=>exact absurd (show false=true from hs) Bool.false_ne_true
 | _=>cases y <;> exact absurd (show false=true from hs) Bool.false_ne_true
theorem qho:OpR X (compareOp .Lt) (rI0 fun i j => .bl (decide (i < j))):=opB0 fun _ _ _ _ _ _ _ q=>lt_int q
theorem qfQ:OpR X (compareOp .Gt) (rI0 fun i j => .bl (decide (j < i))):=opB0 fun _ _ _ _ _ _ _ q=>gt_int q
theorem op_ge:OpR X (compareOp .GtE) (rI0 fun i j => .bl (decide (j≤i))):=opB0 fun _ _ _ _ _ _ _ q=>ge_int q
theorem qnb:OpR X (compareOp .Is) (fun x y H Q=>y = .non/\Q (.bl (decide (x = .non))) H):=by
 intro pins s σ H x y v u Q I rx ry h
 obtain ⟨rfl,q⟩:=h
 cases ry
 refine is_none_gen (qay I q ?_)
 cases x <;> first
  | (cases rx; rfl)
  | (obtain ⟨t,rfl⟩:=rx; rfl)
theorem qax (b:Expr){op:CmpOp}(h:op ≠ .In:=by decide)(h2:op ≠ .NotIn:=by decide):behindInMarks op b=false:=by
 have e1:(op == CmpOp.In)=false:=by cases op <;> first | rfl | exact absurd rfl h
 have e2:(op == CmpOp.NotIn)=false:=by cases op <;> first | rfl | exact absurd rfl h2
 cases b <;> simp [behindInMarks,e1,e2]
def tTest (t:TE):TT:=fun σ H Q=>t σ H fun x H'=>∃ k,x = .bl k/\Q k H'
theorem qal {op:CmpOp}{r:R2}(ho:OpR X (compareOp op) r)(ha:PE X a ta)(hb:PE X b tb)(hm:behindInMarks op b=false):PT X (.Compare a [op] [b] pos) (tTest (tOp r ta tb)):=by
 intro pins s σ H Q I h
 refine wpAny_isTrue_Compare1 (thn (ha pins s σ H _ I h) fun v s1 ⟨x,H1,I1,r1,q1⟩=>thn (hb pins s1 σ H1 _ I1 q1) fun u s2 ⟨y,H2,I2,r2,q2⟩ =>
  thn (ho pins s2 σ H2 x y v u _ I2 r1 r2 q2) fun c s3 ⟨z,H3,I3,r3,k,e,q3⟩=>?_) hm
 subst e
 cases r3
 exact wpAny_truthy_bool ⟨H3,I3,q3⟩
theorem qe9:(sizeLine:Nat) < 2 ^ 63:=by rw [sizeLine_eq]; decide
theorem vals1 {x:V}{us:List Value}(r:Vals [x] us):∃ u,us=[u]/\RelV x u:=by
 cases r with
 | cons r1 r2=>cases r2; exact ⟨_,rfl,r1⟩
theorem vals2 {x y:V}{us:List Value}(r:Vals [x,y] us):∃ u w',us=[u,w']/\RelV x u/\RelV y w':=by
 cases r with
 | cons r1 r2 =>
  cases r2 with
  | cons r3 r4=>cases r4; exact ⟨_,_,rfl,r1,r3⟩
theorem qcx:qb8 X (.builtin "abs") (fun xs H Q=>∃ i,xs=[.int i]/\Q (.int (if i < 0 then -i else i)) H):=by
 intro pins s σ H xs us Q I r h
 obtain ⟨i,rfl,q⟩:=h
 obtain ⟨u,rfl,t,rfl⟩:=vals1 r
 exact call_abs_int fun u tk=>⟨.int (if i < 0 then -i else i),H,I.tok _,⟨_,rfl⟩,q⟩
theorem qjv (hc:X.calm=true):qb8 X (.builtin "min") (fun xs H Q=>∃ i j,xs=[.int i,.int j]/\Q (.int (if j < i then j else i)) H):=by
 intro pins s σ H xs us Q I r h
 obtain ⟨i,j,rfl,q⟩:=h
 obtain ⟨u,w',rfl,⟨t,rfl⟩,⟨t',rfl⟩⟩:=vals2 r
 refine min_two_ints (I.ok.hd hc) fun h' tk k=>⟨_,H,I.kept k,?_,q⟩
 by_cases hj:j < i
 ·rw [if_pos hj,if_pos hj]; exact ⟨_,rfl⟩
 ·rw [if_neg hj,if_neg hj]; exact ⟨_,rfl⟩
end
theorem RelO.some_of {v:V}{o:Option Value}(r:RelO (some v) o):∃ u,o=some u/\RelV v u:=by
 cases o with
 | none=>exact (show False from r).elim
 | some u=>exact ⟨u,rfl,r⟩
structure Room (k:Nat)(A:Around):Prop where
 hd:A.handled=none
 dp:A.depth + 3 * k + 5 < recursionLimit
 un:A.units + 16 * k + 200 < cLine
 gd:A.guards=some []
theorem Room.mono {j k:Nat}{A:Around}(r:Room k A)(h:j≤k):Room j A:=⟨r.hd,by have:=r.dp; omega,by have:=r.un; omega,r.gd⟩
theorem Room.deeper {k:Nat}{A:Around}(r:Room (k + 1) A)(env:Env):Room k (A.deeper env) :=
 ⟨r.hd,by have:=r.dp; show A.depth + 1 + 3 * k + 5 < _; omega,by have:=r.un; show A.units + 3 + 16 * k + 200 < _; omega,r.gd⟩
theorem Room.depth {k:Nat}{A:Around}(r:Room k A):A.depth < recursionLimit:=by have:=r.dp; omega
theorem Room.units {k:Nat}{A:Around}(r:Room k A):A.units + 64 < cLine:=by have:=r.un; omega
def tNil:TA:=fun _ H Q=>Q [] H
def qls (ta:TE)(tr:TA):TA:=fun σ H Q=>ta σ H fun x H1=>tr σ H1 fun xs H2=>Q (x :: xs) H2
section
variable {X:Cx}{e:Expr}{es:List Expr}{te:TE}{t:TA}{pos:Pos}
theorem pN:PA X [] tNil:=fun _ _ _ _ H Q I h=>Calls.spliced_nil ⟨[],H,I,.nil,h⟩
theorem qlR (ha:PE X e te)(hr:PA X es t)(hs:starEach (e :: es) X.env=(false,eval e X.env) :: starEach es X.env:=by rfl):PA X (e :: es) (qls te t):=by
 intro pos pins s σ H Q I h
 rw [hs]
 show wpAny _ _ (spliced ((false,eval e X.env) :: backTo pos (starEach es X.env))) _ _ s
 refine Calls.spliced_cons (thn (ha pins s σ H _ I h) fun u s1 ⟨x,H1,I1,r1,q1⟩=>?_)
 exact thn (hr pos pins s1 σ H1 _ I1 q1) fun us s2 ⟨xs,H2,I2,r2,q2⟩=>⟨x :: xs,H2,I2,.cons r1 r2,q2⟩
def tTup (t:TA):TE:=fun σ H Q=>t σ H fun xs H1=>xs.length≤sizeLine/\∀ p,H1 p=none->Q (.ref p) (upd H1 p (.tup xs))
def tLst (t:TA):TE:=fun σ H Q=>t σ H fun xs H1=>xs.length≤sizeLine/\∀ p,H1 p=none->Q (.ref p) (upd H1 p (.lst xs))
theorem qag {x1}(h:PA X es t):PE X (.Tuple es x1 pos) (tTup t):=by
 intro pins s σ H Q I hq
 refine wpAny_Tuple_spliced (thn (h pos pins s σ H _ I hq) fun us s1 ⟨xs,H1,I1,r,z,q⟩=>⟨by rw [<- r.length]; exact z,?_⟩)
 have hf:H1 s1.heap.objs.size=none:=I1.hok.fresh (Nat.le_refl _)
 refine ⟨.ref s1.heap.objs.size,upd H1 s1.heap.objs.size (.tup xs),I1.laid (t':=s1.toks) (fun b u e=>Heap.get?_push_of_some _ e) (Nat.le_refl _) ?_,rfl,q _ hf⟩
 exact ⟨z,us,r,⟨_,Heap.get?_push_size _ rfl,rfl,_,rfl,rfl⟩⟩
theorem qaG (h:PA X es t):PE X (.List es pos) (tLst t):=by
 intro pins s σ H Q I hq
 refine wpAny_List_spliced (thn (h pos pins s σ H _ I hq) fun us s1 ⟨xs,H1,I1,r,z,q⟩=>⟨by rw [<- r.length]; exact z,?_⟩)
 have hf:H1 s1.heap.objs.size=none:=I1.hok.fresh (Nat.le_refl _)
 refine ⟨.ref s1.heap.objs.size,upd H1 s1.heap.objs.size (.lst xs),I1.laid (t':=s1.toks) (fun b u e=>Heap.get?_push_of_some _ e) (Nat.le_refl _) ?_,rfl,q _ hf⟩
 exact ⟨z,us,0,r,Heap.get?_push_size _ rfl⟩
end
abbrev Sp:=List V->Hp->VK->XK->Prop
abbrev CXT:=List Env->Hp->Shared->XK->Value->Shared->Prop
structure Env0 (P:Program)(w:World)(K:PySem.W.Frag)(mg:Str->Option Value)(base:Heap)(A:Around)(outer:List Env)(s:Shared)(H:Hp):Prop where
 frames:A.frames=some outer
 mod:Mod K mg base
 bs:∀ b o,base.get? b=some o->s.heap.get? b=some o/\H b=none
 bsz:base.objs.size≤s.heap.objs.size
 funs:s.heap.FunFrames base outer
 frf:∀ b∈frs outer,H b=none
 hok:HOk P w H s.heap
 bare:AllBare s.gens
def CE (outer:List Env)(P:Program)(w:World)(H:Hp)(s:Shared)(Q:VK)(u:Value)(s':Shared):Prop :=
 ∃ v H',s'.os=s.os/\AllBare s'.gens/\Un (frs outer) [] H H' s.heap s'.heap/\HOk P w H' s'.heap/\RelV v u/\Q v H'
def CR (CX:CXT)(outer:List Env)(P:Program)(w:World)(H:Hp)(s:Shared)(Q:VK)(E:XK)(r:Result)(s':Shared):Prop :=
 match r with
 | .ok (.ret u)=>CE outer P w H s Q u s'
 | .ok _=>False
 | .error e=>CX outer H s E e s'
structure FnOk (P:Program)(w:World)(K:PySem.W.Frag)(mg:Str->Option Value)(base:Heap)(CX:CXT)(k:Nat)(f:Addr)(fd:FuncData)(ps:List Str)(sp:Sp):Prop where
 len:∀ vs H Q E,sp vs H Q E->vs.length=ps.length
 run:∀ (A:Around) (outer:List Env) (s:Shared) (H:Hp) (args:Args) (us:List Value) (vs:List V) (Q:VK) (E:XK),Room k A->Env0 P w K mg base A outer s H->BindsTo s fd args (ps.zip us)->Vals vs us->sp vs H Q E ->
  codeAny (model P w) A (.call (.ref f) args) (CR CX outer P w H s Q E) s
theorem FnOk.mono {P:Program}{w:World}{K:PySem.W.Frag}{mg:Str->Option Value}{base:Heap}{CX:CXT}{j k:Nat}{f:Addr}{fd:FuncData}{ps:List Str}{sp:Sp}(F:FnOk P w K mg base CX j f fd ps sp)(h:j≤k) :
  FnOk P w K mg base CX k f fd ps sp:=⟨F.len,fun A outer s H args us vs Q E hr=>F.run A outer s H args us vs Q E (hr.mono h)⟩
section
variable {X:Cx}{pins:List (Addr × Obj)}{σ:St}{H:Hp}{s s':Shared}
theorem Inv.env0 (I:Inv X pins σ H s):Env0 X.prog X.w X.K X.mg X.base X.A X.stack s H :=
 ⟨I.ok.frames,I.ok.mod,I.bs,Nat.le_trans I.ok.bsz I.sz,I.stack,I.stkFree,I.hok,I.bare⟩
theorem Inv.after {Q:VK}{u:Value}(I:Inv X pins σ H s)(h:CE X.stack X.prog X.w H s Q u s'):EP X pins σ Q u s':=by
 obtain ⟨v,H',os,bare,un,hok,r,q⟩:=h
 obtain ⟨hh,g,d,t,os'⟩:=s'
 obtain rfl:os'=s.os:=os
 exact ⟨v,H',I.call (h':=hh) (g':=g) (d':=d) (t':=t) (ch:=[]) un hok bare (fun b z=>absurd z (by simp)),r,q⟩
end
def qlt (sp:Sp)(dvs:List V)(E:XK)(t:TA):TE:=fun σ H Q=>t σ H fun vs H1=>sp (vs ++ dvs) H1 Q E
def Binds (K:PySem.W.Frag)(fd:FuncData)(ps:List Str)(ds:List Value):Prop :=
 ∀ (s:Shared) (us:List Value),K.In s.heap->(us ++ ds).length=ps.length->BindsTo s fd ⟨us,[]⟩ (ps.zip (us ++ ds))
theorem Binds.all {K:PySem.W.Frag}{fd:FuncData}{ps:List Str}(h:∀ us:List Value,us.length=ps.length->bindArgs fd ⟨us,[]⟩=pure (ps.zip us)):Binds K fd ps []:=fun s us _ hl=>by
 rw [List.append_nil] at hl ⊢
 exact .of_eq (h us hl)
def qd2 (CX:CXT)(X:Cx)(E:XK):Prop:=∀ (pins:List (Addr × Obj)) (σ:St) (H:Hp) (s:Shared) (e:Value) (s':Shared),Inv X pins σ H s->CX X.stack H s E e s'->X.xe e s'
section
variable {X:Cx}{CX:CXT}{k:Nat}{f C:Addr}{fd:FuncData}{ps:List Str}{sp:Sp}{dvs:List V}{ds:List Value}{E:XK}{x m:Str}{p pos apos:Pos}{e o:Expr}{es:List Expr}{ta:TE}{t:TA}
theorem qmW {pins:List (Addr × Obj)}{σ:St}{H:Hp}{s:Shared}{Q:VK}{us:List Value}{vs:List V}(F:FnOk X.prog X.w X.K X.mg X.base CX k f fd ps sp)(hr:Room k X.A)(hb:Binds X.K fd ps ds)(hd:Vals dvs ds)(hx:qd2 CX X E)
  (I:Inv X pins σ H s) (r:Vals vs us) (h:sp (vs ++ dvs) H Q E):wpAny (model X.prog X.w) X.A (call (.ref f) us) (EP X pins σ Q) X.xe s:=by
 have r2:Vals (vs ++ dvs) (us ++ ds):=r.append hd
 have hl:(us ++ ds).length=ps.length:=by rw [<- r2.length]; exact F.len _ _ _ _ h
 refine wpAny_call (codeAny_mono (F.run X.A X.stack s H ⟨us,[]⟩ (us ++ ds) (vs ++ dvs) Q E hr I.env0 (hb s us I.kIn hl) r2 h) fun r s' hq=>?_)
 cases r with
 | error e=>exact hx pins σ H s e s' I hq
 | ok fl =>
  cases fl with
  | ret u=>exact I.after hq
  | next=>exact False.elim hq
  | brk=>exact False.elim hq
  | cont=>exact False.elim hq
theorem qiu (F:FnOk X.prog X.w X.K X.mg X.base CX k f fd ps sp)(hr:Room k X.A)(hg:Gl X x)(hm:X.mg x=some (.ref f))(hk:PySem.W.keepIn X.K (.ref f)=true)(hb:Binds X.K fd ps ds)(hd:Vals dvs ds)(hx:qd2 CX X E)
  (ha:PA X (e :: es) t) (hdb:(x == ("__debug__" : Str))=false:=by decide) (he:starEach (e :: es) X.env=(false,eval e X.env) :: starEach es X.env:=by rfl) (hpl:(backTo pos (starEach es X.env)).any (·.1)=false:=by rfl) :
  PE X (.Call (.Name x p) (e :: es) [] pos) (qlt sp dvs E t):=by
 intro pins s σ H Q I h
 refine wpAny_Call_Name_kw (qdp I hg hm ?_ hdb)
 refine PySem.W.callWith_K (h₀:=X.base) I.ok.mod.kin hk (thn (ha pos pins s σ H _ I h) fun us s1 ⟨vs,H1,I1,r,q⟩=>⟨I1.kIn,?_⟩) he hpl
 exact qmW F hr hb hd hx I1 r q
end
structure qai (N P:List Str)(sc:Scope):Prop where
 kind:sc.kind = .function
 co:sc.isCoroutine=false
 gen:sc.isGenerator=false
 nd:N.Nodup
 pre:N.take P.length=P
 par:∀ x∈P,sc.names.lookup x=some .local\/sc.names.lookup x=some .cell
 nofree:∀ y∈sc.names,y.2 ≠ .free
theorem qfq {kindOf:Str->Option NameKind}{x:Str}:∀ {binds:List (Str × Value)} {m:Str->Option Value},(∀ v,(x,v) ∉ binds)->bindL kindOf binds m x=m x
 | [],_,_=>rfl
 | (n,v) :: r,m,h=>by
  unfold bindL
  rw [qfq fun w hw=>h w (List.mem_cons_of_mem _ hw)]
  split
  ·have:x≠n:=by rintro rfl; exact h v List.mem_cons_self
   simp [this]
  ·rfl
theorem qfs {kindOf:Str->Option NameKind}{x:Str}:∀ {binds:List (Str × Value)} {m:Str->Option Value},(∀ v,(x,v) ∉ binds)->bindC kindOf binds m x=m x
 | [],_,_=>rfl
 | (n,v) :: r,m,h=>by
  unfold bindC
  rw [qfs fun w hw=>h w (List.mem_cons_of_mem _ hw)]
  split
  ·rfl
  ·have:x≠n:=by rintro rfl; exact h v List.mem_cons_self
   simp [this]
theorem qfr {kindOf:Str->Option NameKind}{x:Str}{v:Value}:∀ {P:List Str} {vs:List Value} {i:Nat} {m:Str->Option Value},P.Nodup->P[i]?=some x->vs[i]?=some v->kindOf x=some .local ->
  bindL kindOf (P.zip vs) m x=some v
 | [],_,_,_,_,h,_,_=>by simp at h
 | _ :: _,[],_,_,_,_,h,_=>by simp at h
 | p :: P,w :: vs,0,m,nd,h1,h2,hk=>by
  simp at h1 h2; subst h1; subst h2
  show bindL kindOf ((p,w) :: P.zip vs) m p=_
  unfold bindL
  rw [qfq fun v hv=>(List.nodup_cons.mp nd).1 (List.of_mem_zip hv).1,if_pos hk]
  simp
 | p :: P,w :: vs,i + 1,m,nd,h1,h2,hk=>by
  show bindL kindOf ((p,w) :: P.zip vs) m x=_
  unfold bindL
  exact qfr (i:=i) (List.nodup_cons.mp nd).2 (by simpa using h1) (by simpa using h2) hk
theorem qft {kindOf:Str->Option NameKind}{x:Str}{v:Value}:∀ {P:List Str} {vs:List Value} {i:Nat} {m:Str->Option Value},P.Nodup->P[i]?=some x->vs[i]?=some v->kindOf x≠some .local ->
  bindC kindOf (P.zip vs) m x=some v
 | [],_,_,_,_,h,_,_=>by simp at h
 | _ :: _,[],_,_,_,_,h,_=>by simp at h
 | p :: P,w :: vs,0,m,nd,h1,h2,hk=>by
  simp at h1 h2; subst h1; subst h2
  show bindC kindOf ((p,w) :: P.zip vs) m p=_
  unfold bindC
  rw [qfs fun v hv=>(List.nodup_cons.mp nd).1 (List.of_mem_zip hv).1,if_neg hk]
  simp
 | p :: P,w :: vs,i + 1,m,nd,h1,h2,hk=>by
  show bindC kindOf ((p,w) :: P.zip vs) m x=_
  unfold bindC
  exact qft (i:=i) (List.nodup_cons.mp nd).2 (by simpa using h1) (by simpa using h2) hk
def start (N:List Str)(vs:List V):St:=vs.map some ++ List.replicate (N.length - vs.length) none
def cxOf (CX:CXT)(P:Program)(w:World)(K:PySem.W.Frag)(mg:Str->Option Value)(base:Heap)(N:List Str)(qual:Str)(scope:Scope)(f:Addr)(cd:Value)(A:Around)(outer:List Env)(s:Shared)(H:Hp)(E:XK):Cx where
 prog:=P
 w:=w
 K:=K
 mg:=mg
 base:=base
 A:=A.deeper (envOfC qual scope s.heap.objs.size f cd)
 N:=N
 s₀:=s
 H₀:=H
 env:=envOfC qual scope s.heap.objs.size f cd
 outer:=outer
 stack:=envOfC qual scope s.heap.objs.size f cd :: outer
 ex:=[]
 calm:=true
 fn:=fun _=>true
 pn:=[]
 xe:=fun e s'=>wpAny (model P w) (A.deeper (envOfC qual scope s.heap.objs.size f cd)) (leaving (envOfC qual scope s.heap.objs.size f cd) e) (fun _ s''=>CX outer H s E e s'') (fun e' s''=>CX outer H s E e' s'') s'
theorem qg9 {sc:Scope}{n:Nat}{x:Str}(h:sc.names.lookup x=some .cell):∃ c,(cellsFrom n sc.names []).lookup x=some c:=by
 have q:=PySem.W.cellsFrom_some sc.names n [] (.inl h)
 exact Option.isSome_iff_exists.mp q
theorem qi0 {CX:CXT}{P:Program}{w:World}{K:PySem.W.Frag}{mg:Str->Option Value}{base:Heap}{N ps:List Str}{qual:Str}{scope:Scope}{f:Addr}{cd:Value}{A:Around}{outer:List Env}{s s1:Shared}{H:Hp}{E:XK}{us:List Value}{vs:List V}
  (S:qai N ps scope) (hd:A.handled=none) (e0:Env0 P w K mg base A outer s H) (hl:vs.length=ps.length) (r:Vals vs us)
  (x:InCallC s s.heap.objs.size (bindL (envOfC qual scope s.heap.objs.size f cd).kindOf (ps.zip us) fun _=>none) (cellsFrom (s.heap.objs.size + 1) scope.names []) (bindC (envOfC qual scope s.heap.objs.size f cd).kindOf (ps.zip us) fun _=>none) s1) :
  Inv (cxOf CX P w K mg base N qual scope f cd A outer s H E) [] (start N vs) H s1:=by
 have hpl:ps.length≤N.length:=by have:=congrArg List.length S.pre; rw [List.length_take] at this; omega
 obtain ⟨h1,tk,rfl,hk⟩:=x.done
 have noA:∀ b:Addr,b ∉ (cxOf CX P w K mg base N qual scope f cd A outer s H E).ex:=fun b z=>absurd (show b∈([]:List Addr) from z) (by simp)
 refine ⟨⟨e0.mod,S.kind,rfl,rfl,Nat.le_refl _,fun y z c h1 h2=>?_,fun y hy=>?_,fun y c _ h=>?_,fun _=>hd,Around.frames_deeper e0.frames,.inr ⟨rfl,rfl⟩,fun b z=>absurd z (noA b),e0.bs,e0.bsz,fun b _ _=>noA b,fun b z=>absurd z (noA b),e0.funs,e0.frf⟩,
  rfl,e0.bare,Un.kept hk,⟨_,x.toInCall.ns,fun i y v h1 h2 h3=>?_⟩,fun y c h=>⟨_,x.cell y c h⟩,e0.hok.fresh (Nat.le_refl _),fun y c h=>?_,fun p hp=>absurd (show p∈([]:List (Addr × Obj)) from hp) (by simp),e0.hok.kept hk,?_⟩
 ·exact name_of_addr x.apart (PySem.mem_of_lookup h1) (PySem.mem_of_lookup h2)
 ·have hy:scope.names.lookup y=some .cell\/scope.names.lookup y=some .free:=hy
  rcases hy with hy | hy
  ·exact qg9 hy
  ·exact absurd rfl (S.nofree _ (PySem.mem_of_lookup hy))
 ·exact Nat.le_of_lt (x.above y c (PySem.mem_of_lookup h))
 ·have hi:i < vs.length:=by
   unfold start at h2
   by_cases hi:i < vs.length
   ·exact hi
   ·rw [List.getElem?_append_right (by simpa using hi)] at h2
    rw [List.getElem?_replicate] at h2
    split at h2 <;> cases h2
  have ha:vs[i]?=some v:=by
   unfold start at h2
   rw [List.getElem?_append_left (by simpa using hi),List.getElem?_map] at h2
   cases e:vs[i]? with
   | none=>rw [e] at h2; cases h2
   | some a=>rw [e] at h2; cases h2; rfl
  obtain ⟨u,hu,rv⟩:=r.get ha
  have hp:ps[i]?=some y:=by
   rw [<- S.pre,List.getElem?_take_of_lt (by omega)]; exact h1
  have ndP:ps.Nodup:=by rw [<- S.pre]; exact S.nd.sublist (List.take_sublist _ _)
  refine ⟨u,rv,?_⟩
  rcases S.par y (List.mem_of_getElem? hp) with k | k
  ·exact .inl ⟨k,qfr ndP hp hu k⟩
  ·obtain ⟨c,e⟩:=qg9 (n:=s.heap.objs.size + 1) k
   refine .inr ⟨.inl k,c,e,?_⟩
   have q:=x.cell y c e
   rw [qft ndP hp hu (by show scope.names.lookup y≠_; rw [k]; decide)] at q
   exact q
 ·exact e0.hok.fresh (Nat.le_of_lt (x.above y c (PySem.mem_of_lookup h)))
 ·unfold start
  show _=N.length
  rw [List.length_append,List.length_map,List.length_replicate]
  omega
theorem qmp {CX:CXT}{P:Program}{w:World}{K:PySem.W.Frag}{mg:Str->Option Value}{base:Heap}{k:Nat}{f:Addr}{name qual:Str}{params:Arguments}{body:List Stmt}{scope:Scope}{dV kV doc pm cdv ct oc:Value}{an od:Option Addr}
  {osl:Array (Option Value)} {N ps:List Str} {sp:Sp} (lk:K.lookup f=some ⟨oc,od,.func (PySem.W.fnOf name qual params body scope dV kV doc pm an cdv ct),osl⟩) (hcd:PySem.W.codeIn K cdv qual=true) (S:qai N ps scope)
  (len:∀ vs H Q E,sp vs H Q E->vs.length=ps.length)
  (hbody:∀ (A:Around) (outer:List Env) (s:Shared) (H:Hp) (vs:List V) (Q:VK) (E:XK),Room k (A.deeper (envOfC qual scope s.heap.objs.size f cdv))->sp vs H Q E ->
    ∃ t,PSs (cxOf CX P w K mg base N qual scope f cdv A outer s H E) body t/\t { nx:=fun _ H'=>Q .non H',rt:=Q } (start N vs) H) :
  FnOk P w K mg base CX (k + 1) f (PySem.W.fnOf name qual params body scope dV kV doc pm an cdv ct) ps sp:=by
 refine ⟨len,fun A outer s H args us vs Q E hr e0 hb r hsp=>?_⟩
 have hl:=len _ _ _ _ hsp
 have KX:K.In s.heap:=e0.mod.kin.keeps fun b o e=>(e0.bs b o e).1
 have lim:s.heap.NoLimit:=e0.mod.nolimit.keeps fun b o e=>(e0.bs b o e).1
 have hkind:∀ y∈ps.zip us,scope.names.lookup y.1=some .local\/(scope.names.lookup y.1=some .cell/\((cellsFrom (s.heap.objs.size + 1) scope.names []).lookup y.1).isSome=true):=fun ⟨n,v⟩ hy=>by
  rcases S.par n (List.of_mem_zip hy).1 with q | q
  ·exact .inl q
  ·exact .inr ⟨q,PySem.W.cellsFrom_some _ _ _ (.inl q)⟩
 refine codeAny_call_function hr.depth (KX _ _ lk) rfl S.co S.gen rfl (PySem.W.codeRec_of KX hcd) (hb _ _ _ _ ?_)
 refine wpAny_newFunctionEnv_cells S.kind hkind fun env he s1 x=>?_
 subst he
 refine ⟨lim.keeps x.toInCall.keep,codeAny_func ?_⟩
 obtain ⟨t,ht,hq⟩:=hbody A outer s H vs Q E (hr.deeper _) hsp
 have I:Inv (cxOf CX P w K mg base N qual scope f cdv A outer s H E) [] (start N vs) H s1:=qi0 S hr.hd e0 hl r x
 refine wpAny_mono (ht [] s1 (start N vs) H _ I hq) (fun fl s' hs=>?_) fun e s' hs=>hs
 have fin:∀ {σ':St} {H':Hp} {v:V} {u:Value},Inv (cxOf CX P w K mg base N qual scope f cdv A outer s H E) [] σ' H' s'->RelV v u->Q v H'->CE outer P w H s Q u s' :=
  fun {σ' H' v u} J rv q=>⟨v,H',J.os,J.bare,J.base,J.hok,rv,q⟩
 cases fl with
 | ret u =>
  obtain ⟨v,σ',H',J,rv,q⟩:=hs
  exact fin J rv q
 | next =>
  obtain ⟨σ',H',J,q⟩:=hs
  exact fin (v:=V.non) (u:=Value.none) J rfl q
 | brk =>
  obtain ⟨_,_,_,q⟩:=hs
  exact False.elim q
 | cont =>
  obtain ⟨_,_,_,q⟩:=hs
  exact False.elim q
section
variable {X:Cx}{x:Str}{p pos:Pos}{e:Expr}{es:List Expr}{t:TA}{id T:String}{r:List V->Hp->VK->Prop}
def tCB (r:List V->Hp->VK->Prop)(t:TA):TE:=fun σ H Q=>t σ H fun vs H1=>r vs H1 Q
theorem qak (hc:qb8 X (.builtin id) r)(hg:Gl X x)(hm:X.mg x=none)(hv:bootBuiltins x=some (.builtin id))(ha:PA X (e :: es) t)(hn:x ≠ "__name__" := by decide)(hdb:(x == ("__debug__" : Str))=false:=by decide)
  (he:starEach (e :: es) X.env=(false,eval e X.env) :: starEach es X.env:=by rfl) (hpl:(backTo pos (starEach es X.env)).any (·.1)=false:=by rfl):PE X (.Call (.Name x p) (e :: es) [] pos) (tCB r t):=by
 intro pins s σ H Q I h
 refine wpAny_Call_Name_kw (qfa I hg hm hv ?_ hn hdb)
 exact PyProof.Rows.callWith_builtin1 (thn (ha pos pins s σ H _ I h) fun us s1 ⟨vs,H1,I1,r1,q1⟩=>hc pins s1 σ H1 vs us Q I1 r1 q1) he hpl
theorem qbv (hc:qb8 X (.type T) r)(hg:Gl X x)(hm:X.mg x=none)(hv:bootBuiltins x=some (.type T))(ha:PA X (e :: es) t)(hn:x ≠ "__name__" := by decide)(hdb:(x == ("__debug__" : Str))=false:=by decide)
  (he:starEach (e :: es) X.env=(false,eval e X.env) :: starEach es X.env:=by rfl) (hpl:(backTo pos (starEach es X.env)).any (·.1)=false:=by rfl):PE X (.Call (.Name x p) (e :: es) [] pos) (tCB r t):=by
 intro pins s σ H Q I h
 refine wpAny_Call_Name_kw (qfa I hg hm hv ?_ hn hdb)
 exact PyProof.Rows.callWith_type1 (thn (ha pos pins s σ H _ I h) fun us s1 ⟨vs,H1,I1,r1,q1⟩=>hc pins s1 σ H1 vs us Q I1 r1 q1) he hpl
end
end L2
namespace HT
open PySem PyProof.Rows
section
variable {prog:Program}{w:World}{A:Around}{E:Value->Shared->Prop}{s:Shared}
theorem cat_tup {t b:Addr}{vs ws:List Value}{Q:Value->Shared->Prop}(ht:IsTup s.heap t vs.toArray)(hb:IsTup s.heap b ws.toArray)(hv:vs≠[])
  (h1:ws=[]->Q (.ref t) s) (h2:ws≠[]->Q (.ref s.heap.objs.size) { s with heap:=s.heap.push { cls := .type "tuple",data := .seq (vs ++ ws).toArray } })
  (hsz:vs.length + ws.length≤sizeLine):wpAny (model prog w) A (binaryOp .Add (.ref t) (.ref b)) Q E s:=by
 obtain ⟨⟨cls,dd,data,sl⟩,ho,hc,n,hd⟩:=id ht
 obtain ⟨⟨cls2,dd2,data2,sl2⟩,ho2,hc2,n2,hd2⟩:=id hb
 simp only at hc hd hc2 hd2
 subst hc hd hc2 hd2
 have e:vs.toArray ++ ws.toArray=(vs ++ ws).toArray:=by simp
 by_cases hw:ws=[]
 ·exact concat_meets ⟨_,ho,rfl⟩ ⟨_,ho2,rfl⟩ noFill_tuple_add seq_tuple_add PySem.F.slot_tuple_add PySem.F.entry_tuple_add (PySem.F.args_tuple_add_2 _ _)
   (tuple_addW1 t b vs.toArray ws.toArray n n2 dd dd2 sl sl2 (by simpa using hv) (by simp [hw])) ⟨ho,ho2,h1 hw⟩
 ·refine concat_meets ⟨_,ho,rfl⟩ ⟨_,ho2,rfl⟩ noFill_tuple_add seq_tuple_add PySem.F.slot_tuple_add PySem.F.entry_tuple_add (PySem.F.args_tuple_add_2 _ _)
   (tuple_addW2 t b vs.toArray ws.toArray n n2 dd dd2 sl sl2 (by simpa using hv) (by simpa using hw) (by rw [List.size_toArray,List.size_toArray]; exact hsz)) ⟨ho,ho2,?_⟩
  rw [e]
  exact h2 hw
def sIx (n d:Nat):Option Int->Nat
 | none=>d
 | some v=>if v < 0 then (v + (n:Int)).toNat else min v.toNat n
theorem sIx_none (n d:Nat):sIx n d none=d:=rfl
theorem sIx_nat (n d k:Nat):sIx n d (some (k:Int))=min k n:=by
 show (if (k:Int) < 0 then ((k:Int) + (n:Int)).toNat else min (k:Int).toNat n)=min k n
 rw [if_neg (by omega),Int.toNat_natCast]
theorem qmV (n d:Nat)(hd:d≤n)(o:Option Int):sIx n d o≤n:=by
 cases o with
 | none=>exact hd
 | some v =>
  show (if v < 0 then (v + (n:Int)).toNat else min v.toNat n)≤n
  by_cases hv:v < 0
  ·rw [if_pos hv]; omega
  ·rw [if_neg hv]; exact Nat.min_le_right _ _
theorem qjr (v:Int)(n d:Nat):(if v < 0 then max (v + (n:Int)) 0 else min v (n:Int))=((sIx n d (some v):Nat):Int):=by
 show (if v < 0 then max (v + (n:Int)) 0 else min v (n:Int))=(((if v < 0 then (v + (n:Int)).toNat else min v.toNat n):Nat):Int)
 by_cases hv:v < 0
 ·simp only [if_pos hv]; omega
 ·simp only [if_neg hv]; omega
theorem qhO (lo hi:Option Int)(n:Nat):Builtin.Slice.sliceAdjust lo hi 1 (n:Int)=(((sIx n 0 lo:Nat):Int),((sIx n n hi:Nat):Int)):=by
 have h1:¬ ((1:Int) < 0):=by omega
 unfold Builtin.Slice.sliceAdjust
 simp only [h1,if_false]
 refine Prod.ext ?_ ?_
 ·cases lo with
  | none=>rfl
  | some v=>exact qjr v n 0
 ·cases hi with
  | none=>rfl
  | some v=>exact qjr v n n
theorem qhm (i j:Nat):Builtin.Slice.slicePlaces (i:Int) (j:Int) 1=j - i:=by
 unfold Builtin.Slice.slicePlaces
 have h1:(1:Int) > 0:=by omega
 simp only [h1,if_true,Int.ediv_one]
 split <;> omega
theorem qdN {v:Value}{o:Option Int}{Q:Option Int->Shared->Prop}(p:IsPart v o)(h:Q o s):wpAny (model prog w) A (Builtin.Slice.slicePartIndex v) Q E s:=by
 cases p with
 | none=>exact slicePart_none h
 | int i t=>exact slicePart_int h
theorem qbC {sl:Addr}{vl vu:Value}{lo hi:Option Int}{n:Nat}{Q:Int × Int × Nat->Shared->Prop}(hs:s.heap.IsSliceOf sl vl vu .none)(pl:IsPart vl lo)(pu:IsPart vu hi)
  (h:Q (((sIx n 0 lo:Nat):Int),1,sIx n n hi - sIx n 0 lo) s):wpAny (model prog w) A (Builtin.Slice.sliceApplied (.ref sl) (pure (n:Int))) Q E s:=by
 obtain ⟨os,hos,hcs,hds⟩:=id hs
 unfold Builtin.Slice.sliceApplied Builtin.Slice.sliceFields
 refine wpAny_bind (wpAny_bind (wpAny_field hos hds (x:=vl) rfl (wpAny_bind (wpAny_field hos hds (x:=vu) rfl (wpAny_bind (wpAny_field hos hds (x := .none) rfl (wpAny_pure ?_)))))))
 refine wpAny_bind (slicePart_none ?_)
 show wpAny _ _ (if ((1:Int) == 0)=true then _ else _) _ _ s
 rw [if_neg (by decide)]
 refine wpAny_bind (qdN pl (wpAny_bind (qdN pu (wpAny_bind (wpAny_pure ?_)))))
 show wpAny _ _ (match Builtin.Slice.sliceAdjust lo hi 1 (n:Int) with | (lo,hi)=>pure (lo,(1:Int),Builtin.Slice.slicePlaces lo hi 1)) _ _ s
 rw [qhO lo hi n]
 show wpAny _ _ (pure (((sIx n 0 lo:Nat):Int),(1:Int),Builtin.Slice.slicePlaces ((sIx n 0 lo:Nat):Int) ((sIx n n hi:Nat):Int) 1)) _ _ s
 rw [qhm]
 exact wpAny_pure h
theorem qj4 (xs:Array Value)(i k:Nat):((List.range k).filterMap fun (m:Nat)=>xs[((i:Int) + (m:Int) * 1).toNat]?).toArray=((xs.toList.drop i).take k).toArray:=by
 have e:(fun (m:Nat)=>xs[((i:Int) + (m:Int) * 1).toNat]?)=fun m=>xs[i + m]?:=by
  funext m
  have:((i:Int) + (m:Int) * 1).toNat=i + m:=by omega
  rw [this]
 rw [e]
 have:=pick_run xs i k
 rw [List.filterMap_map] at this
 have e2:((fun x=>xs[x]?) ∘ fun x=>i + x)=fun m=>xs[i + m]?:=rfl
 rw [e2] at this
 rw [this]
theorem getItem_tuple_cut {t sl:Addr}{items:Array Value}{vl vu:Value}{lo hi:Option Int}{Q:Value->Shared->Prop}(ht:IsTup s.heap t items)(hs:s.heap.IsSliceOf sl vl vu .none)(pl:IsPart vl lo)(pu:IsPart vu hi)
  (hw:¬ (sIx items.size 0 lo=0/\sIx items.size items.size hi=items.size))
  (h:Q (.ref s.heap.objs.size) { s with heap:=s.heap.push { cls := .type "tuple",data := .seq ((items.toList.drop (sIx items.size 0 lo)).take (sIx items.size items.size hi - sIx items.size 0 lo)).toArray } })
  (hsz:items.size≤sizeLine):wpAny (model prog w) A (getItem (.ref t) (.ref sl)) Q E s:=by
 have htake:sizeOk (.seq ((items.toList.drop (sIx items.size 0 lo)).take (sIx items.size items.size hi - sIx items.size 0 lo)).toArray):=by
  show ((items.toList.drop (sIx items.size 0 lo)).take (sIx items.size items.size hi - sIx items.size 0 lo)).toArray.size≤sizeLine
  rw [List.size_toArray,List.length_take,List.length_drop,Array.length_toList]
  omega
 have hj:sIx items.size items.size hi≤items.size:=qmV _ _ (Nat.le_refl _) hi
 obtain ⟨os,hos,hcs,hds⟩:=id hs
 have hTs:s.TypeIs (.ref sl) "slice" := ⟨os,hos,hcs⟩
 unfold getItem
 try with_reducible refine wpAny_holding ?_
 first | refine wpAny_bind (wpAny_pure ?_) | skip
 refine wpAny_bind (wpAny_sequenceKey ht.typeIs (by decide) ?_)
 refine wpAny_bind (wpAny_callSpecial?_slot (name:=Str.ofString "__getitem__") ht.typeIs PyProof.Rows.slot_tuple_getitem
  (wpAny_call_entry PyProof.Rows.slot_tuple_getitem ht.typeIs entry_tuple_getitem ?_ (args_tuple_getitem _ _)))
 show wpAny _ _ (Builtin.Tuple.tupleItemsOf (.ref t) >>= _) _ _ s
 refine wpAny_bind (tupleItemsOf_ ht ?_)
 refine wpAny_bind (wpAny_typeOf hTs ?_)
 rw [if_pos (by decide)]
 refine wpAny_bind (qbC hs pl pu ?_)
 have hno:¬ ((((sIx items.size 0 lo:Nat):Int) == 0 && (1:Int) == 1 && (sIx items.size items.size hi - sIx items.size 0 lo) == items.size)=true):=by
  intro q
  rw [Bool.and_eq_true,Bool.and_eq_true] at q
  have q1:((sIx items.size 0 lo:Nat):Int)=0:=eq_of_beq q.1.1
  have q2:sIx items.size items.size hi - sIx items.size 0 lo=items.size:=eq_of_beq q.2
  exact hw ⟨by omega,by omega⟩
 show wpAny _ _ (if (((sIx items.size 0 lo:Nat):Int) == 0 && (1:Int) == 1 && (sIx items.size items.size hi - sIx items.size 0 lo) == items.size)=true then _ else _) _ _ s
 rw [if_neg hno,qj4]
 first
  | exact wpAny_bind (m:=Builtin.Tuple.tupleExact _) (wpAny_newObj_type (wpAny_pure ⟨_,rfl,wpAny_pure h⟩) htake)
  | exact wpAny_bind (m:=Builtin.Tuple.tupleExact _) (wpAny_newObj_type (wpAny_bind (wpAny_pure (wpAny_pure ⟨_,rfl,wpAny_pure h⟩))) htake)
  | exact wpAny_bind (wpAny_bind (m:=Builtin.Tuple.tupleExact _) (wpAny_newObj_type (wpAny_pure (wpAny_pure ⟨_,rfl,wpAny_pure h⟩)) htake))
  | exact wpAny_bind (wpAny_bind (m:=Builtin.Tuple.tupleExact _) (wpAny_newObj_type (wpAny_pure ⟨_,rfl,wpAny_pure h⟩) htake))
end
end HT
namespace L2
open PySem PySem.Spec PyProof.Rows
abbrev TO:=St->Hp->(Option Int->Hp->Prop)->Prop
def PO (X:Cx)(e:Option Expr)(t:TO):Prop :=
 ∀ (pins:List (Addr × Obj)) (s:Shared) (σ:St) (H:Hp) (Q:Option Int->Hp->Prop),Inv X pins σ H s->t σ H Q ->
  wpAny (model X.prog X.w) X.A (evalPart e X.env) (fun u s'=>∃ o H',Inv X pins σ H' s'/\IsPart u o/\Q o H') X.xe s
def qlq:TO:=fun _ H Q=>Q none H
def tPart (t:TE):TO:=fun σ H Q=>t σ H fun x H1=>∃ i,x = .int i/\Q (some i) H1
theorem intsAre_of {ns:List Int}:∀ {us:List Value},Vals (ns.map V.int) us->IntsAre us ns:=by
 induction ns with
 | nil=>intro us r; rw [List.map_nil] at r; cases r; exact .nil
 | cons n ns ih =>
  intro us r
  rw [List.map_cons] at r
  cases r with
  | cons r1 r2 =>
   obtain ⟨t,e⟩:=r1
   subst e
   exact .cons n t (ih r2)
section
variable {X:Cx}{e:Expr}{te:TE}{lo hi:Option Expr}{tl th:TO}{pos p2:Pos}
theorem qcE:PO X none qlq:=by
 intro pins s σ H Q I h
 rw [evalPart_none]
 exact wpAny_pure ⟨none,H,I,.none,h⟩
theorem qcD (h:PE X e te):PO X (some e) (tPart te):=by
 intro pins s σ H Q I hw
 rw [evalPart_some]
 refine thn (h pins s σ H _ I hw) fun u s1 ⟨x,H1,I1,r1,q1⟩=>?_
 obtain ⟨i,rfl,q⟩:=q1
 obtain ⟨t,rfl⟩:=r1
 exact ⟨some i,H1,I1,.int i t,q⟩
def SlR (X:Cx)(r:V->Option Int->Option Int->Hp->VK->Prop):Prop :=
 ∀ (pins:List (Addr × Obj)) (s:Shared) (σ:St) (H:Hp) (x:V) (v vl vu:Value) (lo hi:Option Int) (sl:Addr) (Q:VK),Inv X pins σ H s->RelV x v->s.heap.IsSliceOf sl vl vu .none->IsPart vl lo->IsPart vu hi->r x lo hi H Q ->
  ∃ T id,typeLookup (.type T) "__getitem__" = pure (some (.builtin id))/\s.TypeIs v T/\wpAny (model X.prog X.w) X.A (getItem v (.ref sl)) (EP X pins σ Q) X.xe s
def tSl (r:V->Option Int->Option Int->Hp->VK->Prop)(te:TE)(tl th:TO):TE:=fun σ H Q=>te σ H fun x H1=>tl σ H1 fun l H2=>th σ H2 fun u H3=>r x l u H3 Q
theorem qbO {r:V->Option Int->Option Int->Hp->VK->Prop}(hr:SlR X r)(he:PE X e te)(hl:PO X lo tl)(hu:PO X hi th):PE X (.Subscript e (.Slice lo hi none p2) pos) (tSl r te tl th):=by
 intro pins s σ H Q I h
 refine Subscript_ (thn (he pins s σ H _ I h) fun v s1 ⟨x,H1,I1,r1,q1⟩=>?_)
 refine wpAny_Slice (thn (hl pins s1 σ H1 _ I1 q1) fun vl s2 ⟨l,H2,I2,pl,q2⟩=>thn (hu pins s2 σ H2 _ I2 q2) fun vu s3 ⟨u,H3,I3,pu,q3⟩=>?_)
 rw [evalPart_none]
 refine wpAny_pure ?_
 have I4:Inv X pins σ H3 { s3 with heap:=s3.heap.push { cls := .type "slice",data := .fields #[vl,vu,.none] } }:=I3.kept (t':=s3.toks) fun b ob q=>Heap.get?_push_of_some _ q
 obtain ⟨T,id,hT,ht,hg⟩:=hr pins { s3 with heap:=s3.heap.push { cls := .type "slice",data := .fields #[vl,vu,.none] } } σ H3 x v vl vu l u s3.heap.objs.size Q I4 r1 (Heap.IsSliceOf.new ..) pl pu q3
 show wpAny (model X.prog X.w) X.A (subscriptTail e (.Slice lo hi none p2) v (.ref s3.heap.objs.size)) (EP X pins σ Q) X.xe { s3 with heap:=s3.heap.push { cls := .type "slice",data := .fields #[vl,vu,.none] } }
 exact tail_any (ops:=[.ref s3.heap.objs.size,v]) ht hT hg (by with_unfolding_all rfl)
def cutV (xs:List V)(lo hi:Option Int):List V:=(xs.drop (HT.sIx xs.length 0 lo)).take (HT.sIx xs.length xs.length hi - HT.sIx xs.length 0 lo)
theorem qdw (xs:List V)(lo hi:Option Int):(cutV xs lo hi).length≤xs.length:=by
 unfold cutV
 rw [List.length_take,List.length_drop]
 omega
def rSlT (K:PySem.W.Frag):V->Option Int->Option Int->Hp->VK->Prop:=fun x lo hi H Q=>∃ a xs,x = .ref a/\SqT K H a xs /\
 ¬ (HT.sIx xs.length 0 lo=0/\HT.sIx xs.length xs.length hi=xs.length)/\∀ p,H p=none->Q (.ref p) (upd H p (.tup (cutV xs lo hi)))
theorem qmU:SlR X (rSlT X.K):=by
 intro pins s σ H x v vl vu lo hi sl Q I rx hs pl pu h
 obtain ⟨a,xs,rfl,hx,hw,q⟩:=h
 cases rx
 obtain ⟨its,r,ht,hz⟩:=I.tuple hx
 have hlen:its.toArray.size=xs.length:=by rw [List.size_toArray]; exact r.length.symm
 refine ⟨"tuple",_,PyProof.Rows.slot_tuple_getitem.lookup,ht.typeIs,?_⟩
 refine HT.getItem_tuple_cut ht hs pl pu (by rw [hlen]; exact hw) ?_ (by rw [hlen]; exact hz)
 rw [hlen]
 refine ⟨.ref s.heap.objs.size,_,I.laid (t':=s.toks) (o := .tup (cutV xs lo hi)) (fun b ob q=>Heap.get?_push_of_some _ q) (Nat.le_refl _) ?_,rfl,q _ (I.hok.fresh (Nat.le_refl _))⟩
 exact ⟨Nat.le_trans (qdw xs lo hi) hz,_,(r.drop (HT.sIx xs.length 0 lo)).take (HT.sIx xs.length xs.length hi - HT.sIx xs.length 0 lo),qbM.new _ _⟩
def rCatT (K:PySem.W.Frag):R2:=fun x y H Q=>∃ a b xs ys,x = .ref a/\y = .ref b/\SqT K H a xs/\SqT K H b ys/\xs≠[]/\xs.length + ys.length≤sizeLine /\
 (ys=[]->Q (.ref a) H)/\(ys≠[]->∀ p,H p=none->Q (.ref p) (upd H p (.tup (xs ++ ys))))
theorem Vals.nil_iff {xs:List V}{us:List Value}(r:Vals xs us):us=[]↔xs=[]:=by
 cases r with
 | nil=>simp
 | cons _ _=>simp
theorem qlT:OpR X (binaryOp .Add) (rCatT X.K):=by
 intro pins s σ H x y v u Q I rx ry h
 obtain ⟨a,b,xs,ys,rfl,rfl,ha,hb,hx,hz,q1,q2⟩:=h
 cases rx
 cases ry
 obtain ⟨its,r1,p1,_⟩:=I.tuple ha
 obtain ⟨its2,r2,p2,_⟩:=I.tuple hb
 refine HT.cat_tup p1 p2 (fun z=>hx (r1.nil_iff.mp z)) (fun z=>⟨.ref a,H,I,rfl,q1 (r2.nil_iff.mp z)⟩) (fun z=>?_) (by rw [<- r1.length,<- r2.length]; exact hz)
 refine ⟨.ref s.heap.objs.size,_,I.laid (t':=s.toks) (o := .tup (xs ++ ys)) (fun b ob q=>Heap.get?_push_of_some _ q) (Nat.le_refl _) ?_,rfl,q2 (fun w=>z (r2.nil_iff.mpr w)) _ (I.hok.fresh (Nat.le_refl _))⟩
 exact ⟨by rw [List.length_append]; exact hz,_,r1.append r2,qbM.new _ _⟩
end
def ixN (n:Nat)(i:Int):Option Nat:=if 0≤i then (if i < n then some i.toNat else none) else if -(n:Int)≤i then some (i + n).toNat else none
def atI {α:Type}(xs:List α)(i:Int):Option α:=(ixN xs.length i).bind fun j=>xs[j]?
theorem qiW {n:Nat}{i:Int}{j:Nat}(h:ixN n i=some j):seqIndex? i n=some j/\j < n/\-(n:Int)≤i/\i < n:=by
 unfold ixN at h
 by_cases h0:0≤i
 ·rw [if_pos h0] at h
  by_cases h1:i < n
  ·rw [if_pos h1] at h
   have e:i.toNat=j:=Option.some.inj h
   exact ⟨by rw [seqIndex_of h0 h1,e],by omega,by omega,h1⟩
  ·rw [if_neg h1] at h; cases h
 ·rw [if_neg h0] at h
  by_cases h1:-(n:Int)≤i
  ·rw [if_pos h1] at h
   have e:(i + n).toNat=j:=Option.some.inj h
   exact ⟨by rw [seqIndex_neg (by omega) h1,e],by omega,h1,by omega⟩
  ·rw [if_neg h1] at h; cases h
theorem qf9 {α:Type}{xs:List α}{i:Int}{v:α}(h:atI xs i=some v):∃ j,seqIndex? i xs.length=some j/\xs[j]?=some v/\j < xs.length/\-(xs.length:Int)≤i/\i < xs.length:=by
 unfold atI at h
 cases e:ixN xs.length i with
 | none=>rw [e] at h; cases h
 | some j =>
  rw [e] at h
  obtain ⟨h1,h2,h3,h4⟩:=qiW e
  exact ⟨j,h1,h,h2,h3,h4⟩
theorem qdA {α:Type}{xs:List α}{j:Nat}{v:α}(h:xs[j]?=some v):atI xs (j:Int)=some v:=by
 have hj:j < xs.length:=(List.getElem?_eq_some_iff.mp h).1
 have e:ixN xs.length (j:Int)=some j:=by
  unfold ixN
  rw [if_pos (by omega),if_pos (by omega)]; simp
 unfold atI; rw [e]; exact h
def qmD (b:Expr):Prop:=∀ o i,subscripted b false o i=operate [o,i] (getItem o i)
def IxR (X:Cx)(r:R2):Prop :=
 ∀ (value slice:Expr) (pins:List (Addr × Obj)) (s:Shared) (σ:St) (H:Hp) (x y:V) (v u:Value) (Q:VK),Inv X pins σ H s->RelV x v->RelV y u->r x y H Q ->
  subscripted slice false v u=operate [v,u] (getItem v u)->wpAny (model X.prog X.w) X.A (subscriptTail value slice v u) (EP X pins σ Q) X.xe s
def MtR (X:Cx)(id:String)(r:V->List V->Hp->VK->Prop):Prop :=
 ∀ (pins:List (Addr × Obj)) (s:Shared) (σ:St) (H:Hp) (x:V) (xs:List V) (v:Value) (us:List Value) (Q:VK),Inv X pins σ H s->RelV x v->Vals xs us->r x xs H Q ->
  wpAny (model X.prog X.w) X.A (call (.builtin id) (v :: us)) (EP X pins σ Q) X.xe s
section
variable {X:Cx}{a b:Expr}{ta tb:TE}{pos:Pos}
theorem qaw {r:R2}(hr:IxR X r)(ha:PE X a ta)(hb:PE X b tb)(hs:qmD b):PE X (.Subscript a b pos) (tOp r ta tb):=by
 intro pins s σ H Q I h
 exact Subscript_ (binT ha hb I h fun v u s2 x y H2 I2 rx ry q=>hr a b pins s2 σ H2 x y v u Q I2 rx ry q (hs _ _))
def rIxL (K:PySem.W.Frag):R2:=fun x y H Q=>∃ p xs i v,x = .ref p/\y = .int i/\SqL K H p xs/\atI xs i=some v/\Q v H
def rIxT (K:PySem.W.Frag):R2:=fun x y H Q=>∃ p xs i v,x = .ref p/\y = .int i/\SqT K H p xs/\atI xs i=some v/\Q v H
theorem qaQ:IxR X (rIxL X.K):=by
 intro value slice pins s σ H x y v u Q I rx ry h hs
 obtain ⟨p,xs,i,z,rfl,rfl,hq,he,q⟩:=h
 cases rx
 obtain ⟨t,rfl⟩:=ry
 obtain ⟨its,r,pl,hz⟩:=I.list hq
 obtain ⟨j,h1,h2,h3,h4,h5⟩:=qf9 he
 obtain ⟨w,ew,rw'⟩:=r.get h2
 have hl:=r.length
 have hn:=qe9
 have fin:EP X pins σ Q w s:=⟨z,H,I,rw',q⟩
 by_cases h0:0≤i
 ·have hj:i.toNat=j:=by
   rw [seqIndex_of h0 h5] at h1
   exact Option.some.inj h1
  exact item_listR pl.isList h0 (by omega) (by rw [hj]; simpa using ew) fin hs
 ·have hj:(i + (its.toArray.size:Int)).toNat=j:=by
   rw [seqIndex_neg (by omega) h4] at h1
   rw [List.size_toArray,<- hl]
   exact Option.some.inj h1
  exact subscriptTail_builtinR (x:=w) pl.isList.typeIs slot_list_getitem.lookup
   (wpAny_getItem_list_neg (Q:=fun r s'=>r=w/\EP X pins σ Q r s') pl.isList (by omega) (by rw [List.size_toArray] <;> omega) (by omega) (by rw [hj]; simpa using ew) ⟨rfl,fin⟩) hs
theorem qas:IxR X (rIxT X.K):=by
 intro value slice pins s σ H x y v u Q I rx ry h hs
 obtain ⟨p,xs,i,z,rfl,rfl,hq,he,q⟩:=h
 cases rx
 obtain ⟨t,rfl⟩:=ry
 obtain ⟨its,r,pl,hz⟩:=I.tuple hq
 obtain ⟨j,h1,h2,h3,h4,h5⟩:=qf9 he
 obtain ⟨w,ew,rw'⟩:=r.get h2
 have hl:=r.length
 have hn:=qe9
 have fin:EP X pins σ Q w s:=⟨z,H,I,rw',q⟩
 exact subscriptTail_builtinR (x:=w) pl.typeIs slot_tuple_getitem.lookup
  (getItem_tuple (j:=j) (Q:=fun r s'=>r=w/\EP X pins σ Q r s') pl (by omega) (by omega) (by rw [List.size_toArray,<- hl]; exact h1) (by simpa using ew) ⟨rfl,fin⟩) hs
theorem qht (its:List Value)(n j:Nat)(u:Value):Obj.mapSeq (·.setIfInBounds j u) { cls := .type "list",data := .seq its.toArray n }={ cls := .type "list",data := .seq (its.set j u).toArray n }:=by
 simp [Obj.mapSeq]
theorem Inv.lst {pins:List (Addr × Obj)}{σ:St}{H:Hp}{s:Shared}{p:Addr}{xs:List V}(I:Inv X pins σ H s)(h:H p=some (.lst xs)) :
  ∃ (its:List Value) (n:Nat),Vals xs its/\s.heap.get? p=some { cls := .type "list",data := .seq its.toArray n }/\xs.length≤sizeLine:=by
 obtain ⟨z,its,n,r,e⟩:=I.hok p _ h
 exact ⟨its,n,r,e,z⟩
theorem Inv.lstUpd {pins:List (Addr × Obj)}{σ:St}{H:Hp}{s:Shared}{p:Addr}{xs ys:List V}{its its':List Value}{n n':Nat}{f:Obj->Obj}(I:Inv X pins σ H s)(h:H p=some (.lst xs))
  (ho:s.heap.get? p=some { cls := .type "list",data := .seq its.toArray n }) (hf:f { cls := .type "list",data := .seq its.toArray n }={ cls := .type "list",data := .seq its'.toArray n' }) (r:Vals ys its') (hz:ys.length≤sizeLine) (t:Nat) :
  Inv X pins σ (upd H p (.lst ys)) { s with heap:=s.heap.update p f,toks:=t }:=by
 have e:(s.heap.update p f).get? p=some { cls := .type "list",data := .seq its'.toArray n' }:=by
  rw [Heap.get?_update_self f ho (by rw [hf] <;> rfl),hf]
 refine I.write (x:=p) (e:=p) (by rw [h]; trivial) (.inl rfl) (fun b u hb q=>(Heap.get?_update_other _ _ (Ne.symm hb)).trans q) ⟨_,e⟩ ?_
 exact ⟨hz,its',n',r,e⟩
def rSetL:V->V->V->Hp->(Hp->Prop)->Prop:=fun o i v H Q=>∃ p xs k j,o = .ref p/\i = .int k/\H p=some (.lst xs)/\ixN xs.length k=some j/\Q (upd H p (.lst (xs.set j v)))
theorem set_list:PSet X rSetL:=by
 intro pins s σ H o i v ov iv u Q I ro ri rv h
 obtain ⟨p,xs,k,j,rfl,rfl,hp,hj,q⟩:=h
 cases ro
 obtain ⟨t,rfl⟩:=ri
 obtain ⟨its,n,r,ho,hz⟩:=I.lst hp
 obtain ⟨h1,h2,h3,h4⟩:=qiW hj
 have hl:=r.length
 have hn:=qe9
 have I':Inv X pins σ (upd H p (.lst (xs.set j v))) { s with heap:=s.heap.update p (Obj.mapSeq (·.setIfInBounds j u)) } :=
  I.lstUpd hp ho (qht its n j u) (r.set rv j) (by rw [List.length_set]; exact hz) s.toks
 by_cases h0:0≤k
 ·have hk:k.toNat=j:=by
   rw [seqIndex_of h0 h4] at h1
   exact Option.some.inj h1
  exact PySem.W.ki_setAt ho h0 (by omega) (by rw [List.size_toArray,<- hl]; exact h4) (by rw [hk]; exact ⟨_,I',q⟩)
 ·have hk:(k + (its.toArray.size:Int)).toNat=j:=by
   rw [seqIndex_neg (by omega) h3] at h1
   rw [List.size_toArray,<- hl]
   exact Option.some.inj h1
  exact PySem.W.ki_setBack ho (by omega) (by rw [List.size_toArray,<- hl]; exact h3) (by omega) (by rw [hk]; exact ⟨_,I',q⟩)
theorem qeQ (lo hi:Option Int)(n:Nat):(sliceBounds lo hi none n).1=((HT.sIx n 0 lo:Nat):Int)/\(sliceBounds lo hi none n).2.1=((HT.sIx n n hi:Nat):Int)/\(sliceBounds lo hi none n).2.2=1:=by
 refine ⟨?_,?_,rfl⟩
 ·cases lo with
  | none=>simp [sliceBounds,HT.sIx]
  | some i =>
   simp only [sliceBounds,HT.sIx,Option.getD_none,show (1:Int) > 0 by decide,if_true]
   by_cases h:i < 0
   ·simp only [h,if_true] <;> omega
   ·simp only [h,if_false] <;> omega
 ·cases hi with
  | none=>simp [sliceBounds,HT.sIx]
  | some i =>
   simp only [sliceBounds,HT.sIx,Option.getD_none,show (1:Int) > 0 by decide,if_true]
   by_cases h:i < 0
   ·simp only [h,if_true] <;> omega
   ·simp only [h,if_false] <;> omega
theorem qea (its:List Value)(lo hi:Option Int):slicePick its.toArray lo hi none=((its.drop (HT.sIx its.length 0 lo)).take (HT.sIx its.length its.length hi - HT.sIx its.length 0 lo)).toArray:=by
 obtain ⟨h1,h2,h3⟩:=qeQ lo hi its.toArray.size
 unfold slicePick
 rw [h1,h2,h3]
 simp only [sliceRange_one,pick_run,List.size_toArray] <;> rfl
def rSlL (K:PySem.W.Frag):V->Option Int->Option Int->Hp->VK->Prop:=fun x lo hi H Q=>∃ a xs,x = .ref a/\SqL K H a xs/\∀ p,H p=none->Q (.ref p) (upd H p (.lst (cutV xs lo hi)))
theorem qie:SlR X (rSlL X.K):=by
 intro pins s σ H x v vl vu lo hi sl Q I rx hs pl pu h
 obtain ⟨a,xs,rfl,hx,q⟩:=h
 cases rx
 obtain ⟨its,r,ht,hz⟩:=I.list hx
 have hlen:=r.length
 refine ⟨"list",_,slot_list_getitem.lookup,ht.isList.typeIs,?_⟩
 refine wpAny_getItem_list_slice ht.isList hs pl pu .none (by simp) ?_ (by rw [List.size_toArray] <;> omega)
 rw [qea,<- hlen]
 refine ⟨.ref s.heap.objs.size,_,I.laid (t':=s.toks) (o := .lst (cutV xs lo hi)) (fun b ob q=>Heap.get?_push_of_some _ q) (Nat.le_refl _) ?_,rfl,q _ (I.hok.fresh (Nat.le_refl _))⟩
 exact ⟨Nat.le_trans (qdw xs lo hi) hz,_,0,(r.drop (HT.sIx xs.length 0 lo)).take (HT.sIx xs.length xs.length hi - HT.sIx xs.length 0 lo),Heap.get?_push_size _ rfl⟩
def qc1:V->Bool
 | .non=>true
 | .bl _=>true
 | .int _=>true
 | .str _=>true
 | _=>false
def eqV:V->V->Bool
 | .non,.non=>true
 | .bl a,.bl b=>a == b
 | .bl a,.int b=>(if a then 1 else 0) == b
 | .int a,.bl b=>a == (if b then 1 else 0)
 | .int a,.int b=>a == b
 | .str a,.str b=>a == b
 | _,_=>false
theorem qle {A:Around}{s:Shared}{y x:V}{u v:Value}(ry:RelV y u)(rx:RelV x v)(fy:qc1 y=true)(fx:qc1 x=true):SeqAt.EqAt A s u v (eqV y x):=by
 cases y with
 | non =>
  cases ry
  cases x with
  | non=>cases rx; exact SeqAt.EqAt.same _
  | bl b=>cases rx; exact SeqAt.EqAt.none_bool b
  | int b=>obtain ⟨t,rfl⟩:=rx; exact SeqAt.EqAt.none_int b t
  | str b=>obtain ⟨t,rfl⟩:=rx; exact SeqAt.EqAt.none_str b t
  | _=>exact absurd (show false=true from fx) Bool.false_ne_true
 | bl a =>
  cases ry
  cases x with
  | non=>cases rx; exact SeqAt.EqAt.bool_none a
  | bl b=>cases rx; exact SeqAt.EqAt.bool_bool a b
  | int b=>obtain ⟨t,rfl⟩:=rx; exact SeqAt.EqAt.bool_int a b t
  | str b=>obtain ⟨t,rfl⟩:=rx; exact SeqAt.EqAt.bool_str a b t
  | _=>exact absurd (show false=true from fx) Bool.false_ne_true
 | int a =>
  obtain ⟨t',rfl⟩:=ry
  cases x with
  | non=>cases rx; exact SeqAt.EqAt.int_none a t'
  | bl b=>cases rx; exact SeqAt.EqAt.int_bool a t' b
  | int b=>obtain ⟨t,rfl⟩:=rx; exact SeqAt.EqAt.int_int a t' b t
  | str b=>obtain ⟨t,rfl⟩:=rx; exact SeqAt.EqAt.int_str a t' b t
  | _=>exact absurd (show false=true from fx) Bool.false_ne_true
 | str a =>
  obtain ⟨t',rfl⟩:=ry
  cases x with
  | non=>cases rx; exact SeqAt.EqAt.str_none a t'
  | bl b=>cases rx; exact SeqAt.EqAt.str_bool a t' b
  | int b=>obtain ⟨t,rfl⟩:=rx; exact SeqAt.EqAt.str_int a t' b t
  | str b=>obtain ⟨t,rfl⟩:=rx; exact SeqAt.EqAt.str_str a t' b t
  | _=>exact absurd (show false=true from fx) Bool.false_ne_true
 | _=>exact absurd (show false=true from fy) Bool.false_ne_true
def eqU (x:V)(u:Value):Bool:=match u with
 | .none=>eqV .non x
 | .bool b=>eqV (.bl b) x
 | .int i _=>eqV (.int i) x
 | .str z _=>eqV (.str z) x
 | _=>false
theorem qg5 {x y:V}{u:Value}(r:RelV y u)(f:qc1 y=true):eqU x u=eqV y x:=by
 cases y with
 | non=>cases r; rfl
 | bl b=>cases r; rfl
 | int i=>obtain ⟨t,rfl⟩:=r; rfl
 | str z=>obtain ⟨t,rfl⟩:=r; rfl
 | _=>exact absurd (show false=true from f) Bool.false_ne_true
theorem qaH:qb8 X (.builtin "len") (fun xs H Q=>∃ p ys,xs=[.ref p]/\(SqL X.K H p ys\/SqT X.K H p ys)/\Q (.int ys.length) H):=by
 intro pins s σ H xs us Q I r h
 obtain ⟨p,ys,rfl,hq,q⟩:=h
 obtain ⟨u,rfl,rx⟩:=vals1 r
 cases rx
 have hn:=qe9
 rcases hq with hq | hq
 ·obtain ⟨its,r',pl,hz⟩:=I.list hq
  have hlen:=r'.length
  exact Calls.call_len_list pl.isList (by simp only [List.size_toArray] <;> omega) ⟨.int ys.length,H,I.tok _,⟨s.toks + 1,by rw [List.size_toArray,hlen]⟩,q⟩
 ·obtain ⟨its,r',pl,hz⟩:=I.tuple hq
  have hlen:=r'.length
  exact len_tuple pl (by simp only [List.size_toArray] <;> omega) ⟨.int ys.length,H,I.tok _,⟨s.toks + 1,by rw [List.size_toArray,hlen]⟩,q⟩
theorem qbA:qb8 X (.type "tuple") (fun xs H Q=>∃ p ys,xs=[.ref p]/\((SqL X.K H p ys/\∀ l,H l=none->Q (.ref l) (upd H l (.tup ys)))\/(SqT X.K H p ys/\Q (.ref p) H))):=by
 intro pins s σ H xs us Q I r h
 obtain ⟨p,ys,rfl,h⟩:=h
 obtain ⟨u,rfl,rx⟩:=vals1 r
 cases rx
 rcases h with ⟨hq,q⟩ | ⟨hq,q⟩
 ·obtain ⟨its,r',pl,hz⟩:=I.list hq
  have hlen:=r'.length
  refine call_tuple_list pl.isList (fun h' kp=>?_) (by simp only [List.size_toArray] <;> omega)
  have I1:Inv X pins σ H { s with heap:=h' }:=I.kept (t':=s.toks) kp
  have I2:Inv X pins σ (upd H h'.objs.size (.tup ys)) { s with heap:=h'.push { cls := .type "tuple",data := .seq its.toArray } } :=
   I1.laid (t':=s.toks) (fun b o e=>Heap.get?_push_of_some _ e) (Nat.le_refl _) (show qaR X.prog X.w _ _ _ (.tup ys) from ⟨hz,its,r',qbM.new _ _⟩)
  exact ⟨.ref h'.objs.size,_,I2,rfl,q _ (I1.hok.fresh (Nat.le_refl _))⟩
 ·obtain ⟨its,r',pl,hz⟩:=I.tuple hq
  exact call_tuple_same pl ⟨.ref p,H,I,rfl,q⟩
def tyV (K:PySem.W.Frag)(T:String)(x:V)(H:Hp):Prop:=match x with
 | .str _=>T = "str"
 | .int _=>T = "int"
 | .ref p=>(T = "list" /\ ∃ xs,SqL K H p xs)\/(T = "tuple" /\ ∃ o,K.lookup p=some o/\o.cls = .type "tuple" /\ o.dict=none) \/
   (T = "dict" /\ ((∃ kvs,H p=some (.dK kvs))\/∃ kvs,H p=some (.dT kvs)))\/(T = "set" /\ ∃ S n,H p=some (.set S n))
 | _=>False
theorem qmH {pins:List (Addr × Obj)}{σ:St}{H:Hp}{s:Shared}{T:String}{x:V}{v:Value}(I:Inv X pins σ H s)(r:RelV x v)(ty:tyV X.K T x H) :
  s.TypeIs v T/\∀ a,v = .ref a->∃ ob,s.heap.get? a=some ob/\ob.dict=none:=by
 cases x with
 | str z =>
  obtain ⟨t,rfl⟩:=r
  cases (show T = "str" from ty)
  exact ⟨typeIs_str s z t,fun _ e=>nomatch e⟩
 | int i =>
  obtain ⟨t,rfl⟩:=r
  cases (show T = "int" from ty)
  exact ⟨typeIs_int s i t,fun _ e=>nomatch e⟩
 | ref p =>
  cases r
  rcases ty with ⟨rfl,xs,hq⟩ | ⟨rfl,o,hk,hc,hd⟩ | ⟨rfl,hk⟩ | ⟨rfl,S,n,hk⟩
  ·obtain ⟨its,_,pl,_⟩:=I.list hq
   refine ⟨pl.isList.typeIs,fun a e=>?_⟩
   cases e
   obtain ⟨o,n,e,c,hd,_⟩:=pl
   exact ⟨o,e,hd⟩
  ·refine ⟨⟨o,I.kIn p o hk,hc⟩,fun a e=>?_⟩
   cases e
   exact ⟨o,I.kIn _ o hk,hd⟩
  ·have z:∃ o,s.heap.get? p=some o/\o.ExactDict:=by
    rcases hk with ⟨kvs,hk⟩ | ⟨kvs,hk⟩
    ·obtain ⟨_,_,_,_,o,_,_,e,ex,_⟩:=I.hok p _ hk
     exact ⟨o,e,ex⟩
    ·obtain ⟨_,_,_,_,o,_,_,e,ex,_⟩:=I.hok p _ hk
     exact ⟨o,e,ex⟩
   obtain ⟨o,e,ex⟩:=z
   refine ⟨⟨o,e,ex.1⟩,fun a e2=>?_⟩
   cases e2
   exact ⟨o,e,ex.2.1⟩
  ·obtain ⟨o,_,_,_,e,ex,_⟩:=I.hok p _ hk
   refine ⟨⟨o,e,ex.1⟩,fun a e2=>?_⟩
   cases e2
   exact ⟨o,e,ex.2.1⟩
 | _=>exact False.elim ty
def tBM (K:PySem.W.Frag)(T:String)(r:V->List V->Hp->VK->Prop)(to:TE)(t:TA):TE:=fun σ H Q=>to σ H fun x H1=>tyV K T x H1/\t σ H1 fun xs H2=>r x xs H2 Q
variable {o e:Expr}{es:List Expr}{to:TE}{t:TA}{name:Str}{apos cpos:Pos}{T id:String}{r:V->List V->Hp->VK->Prop}
theorem qiv (pa:PlainAttrs T)(slot:Slot T name id)(hty:typeOf (.builtin id)=pure (.type "method_descriptor"))(hm:MtR X id r)(ho:PE X o to)(ha:PA X (e :: es) t)
  (hbase:attributeBase o name X.env (eval o X.env)=eval o X.env:=by rfl)
  (hfew:((backTo cpos (starEach (e :: es) X.env)).all (fun x=>!x.1) && (backToKw cpos (keywordEach [] X.env)).all (fun x=>x.1.isSome)
    && decide ((e :: es).length + ([]:List Keyword).length + (if ([]:List Keyword).isEmpty then 0 else 1) < 30))=true:=by rfl)
  (hline:(apos.endLine == cpos.line)=true:=by rfl) (hs:starEach (e :: es) X.env=(false,eval e X.env) :: starEach es X.env:=by rfl) (hplain:(backTo cpos (starEach es X.env)).any (·.1)=false:=by rfl) :
  PE X (.Call (.Attribute o name apos) (e :: es) [] cpos) (tBM X.K T r to t):=by
 intro pins s σ H Q I h
 refine wpAny_Call_method_late hbase hfew hline rfl (thn (ho pins s σ H _ I h) fun v s1 ⟨x,H1,I1,r1,ty,q1⟩=>?_)
 obtain ⟨h1,h2⟩:=qmH I1 r1 ty
 refine ⟨T,id,pa,slot,hty,h1,h2,?_⟩
 have hA:=ha cpos pins s1 σ H1 _ I1 q1
 rw [hs] at hA ⊢
 refine Calls.callWith_builtin (by show (false || (backTo cpos (starEach es X.env)).any (·.1))=false; rw [hplain] <;> rfl) (Calls.evalArgs_plain ?_)
 exact thn hA fun us s2 ⟨vs,H2,I2,r2,q2⟩=>hm pins s2 σ H2 x vs v us Q I2 r1 r2 q2
/- xs.append(e),list.index on a module's tuple .. are MtR facts of 06m -/
end
def MtM (X:Cx)(id:String)(r:V->List V->Hp->VK->Prop):Prop :=
 ∀ (pins:List (Addr × Obj)) (s:Shared) (σ:St) (H:Hp) (x:V) (xs:List V) (v:Value) (us:List Value) (Q:VK),Inv X pins σ H s->RelV x v->Vals xs us->r x xs H Q ->
  wpAny (model X.prog X.w) X.A (call (.builtin id) (v :: us)) (EP X pins σ Q) X.xe s
theorem Vals.one:∀ {x:V} {us:List Value},Vals [x] us->∃ u,us=[u]/\RelV x u
 | _,_,.cons r .nil=>⟨_,rfl,r⟩
theorem Vals.rep {xs:List V}{us:List Value}(h:Vals xs us):∀ k:Nat,Vals (List.replicate k xs).flatten (List.replicate k us).flatten
 | 0 => .nil
 | k + 1=>by
  rw [List.replicate_succ,List.replicate_succ,List.flatten_cons,List.flatten_cons]
  exact Vals.append h (Vals.rep h k)
theorem foldl_rep (its:List Value):∀ (k:Nat) (acc:List Value),
  List.foldl (fun x1 x2=>x1 ++ x2) acc.toArray (List.replicate k its.toArray)=(acc ++ (List.replicate k its).flatten).toArray
 | 0,acc=>by simp
 | k + 1,acc=>by
  have e:acc.toArray ++ its.toArray=(acc ++ its).toArray:=by simp
  have e2:(acc ++ its) ++ (List.replicate k its).flatten=acc ++ (List.replicate (k + 1) its).flatten:=by
   rw [List.replicate_succ,List.flatten_cons,List.append_assoc]
  rw [<- e2,<- foldl_rep its k (acc ++ its),<- e,List.replicate_succ,List.foldl_cons]
section
variable {X:Cx}{pins:List (Addr × Obj)}{σ:St}{H:Hp}{s:Shared}{l b:Addr}{xs ys zs:List V}
theorem Inv.lset {its its':List Value}{n:Nat}{f:Array Value->Array Value}{t':Nat}(I:Inv X pins σ H s)(hH:H l=some (.lst xs))
  (e:s.heap.get? l=some { cls := .type "list",data := .seq its.toArray n }) (hf:f its.toArray=its'.toArray) (hv:Vals ys its') (hz:ys.length≤sizeLine) :
  Inv X pins σ (upd H l (.lst ys)) { s with heap:=s.heap.update l (Obj.mapSeq f),toks:=t' }:=by
 have q:=PySem.IsL.update e f
 rw [hf] at q
 refine I.write (x:=l) (e:=l) (by rw [hH]; exact trivial) (.inl rfl) (fun b' u hb hu=>(Heap.get?_update_other s.heap (Obj.mapSeq f) (Ne.symm hb)).trans hu) ⟨_,q⟩ ?_
 exact ⟨hz,its',_,hv,q⟩
theorem Inv.lnew {its:List Value}{t':Nat}(I:Inv X pins σ H s)(hv:Vals ys its)(hz:ys.length≤sizeLine) :
  Inv X pins σ (upd H s.heap.objs.size (.lst ys)) { s with heap:=s.heap.push { cls := .type "list",data := .seq its.toArray },toks:=t' } :=
 I.laid (fun _ _ q=>Heap.get?_push_of_some _ q) (Nat.le_refl _) ⟨hz,its,0,hv,Heap.get?_push_size _ rfl⟩
theorem Inv.fresh (I:Inv X pins σ H s):H s.heap.objs.size=none:=I.hok.fresh (Nat.le_refl _)
theorem Inv.lstM (I:Inv X pins σ H s)(hH:H l=some (.lst xs)):xs.length≤sizeLine/\∃ (its:List Value) (n:Nat),Vals xs its/\xs.length=its.length/\s.heap.get? l=some { cls := .type "list",data := .seq its.toArray n }:=by
 obtain ⟨z,its,n,r,e⟩:=I.hok l _ hH
 exact ⟨z,its,n,r,r.length,e⟩
theorem qgL {n:Nat}(h:n≤sizeLine):Builtin.List.listTooLong n=false:=by
 unfold Builtin.List.listTooLong
 exact decide_eq_false (by omega)
end
section
variable {X:Cx}
def qlE:V->List V->Hp->VK->Prop:=fun x vs H Q=>∃ l xs y,x = .ref l/\vs=[y]/\H l=some (.lst xs)/\xs.length < sizeLine/\Q .non (upd H l (.lst (xs ++ [y])))
theorem qcl:MtM X "list.append" qlE:=by
 intro pins s σ H x vs v us Q I rx rv h
 obtain ⟨l,xs,y,rfl,rfl,hH,hz,q⟩:=h
 cases rx
 obtain ⟨u,rfl,ru⟩:=rv.one
 obtain ⟨z,its,n,r,hl,e⟩:=I.lstM hH
 refine call_meets F.slot_list_append ⟨_,e,rfl⟩ F.entry_list_append (F.args_list_append_2 _ _) (PySem.list_append l its.toArray n u (by rw [List.size_toArray]; omega)) ⟨e,?_⟩
 refine ⟨.non,_,I.lset (its':=its ++ [u]) hH e (by simp) (r.append (.cons ru .nil)) ?_,rfl,q⟩
 rw [List.length_append,List.length_singleton]
 omega
def qlD:V->List V->Hp->VK->Prop:=fun x vs H Q=>∃ l b xs zs,x = .ref l/\vs=[.ref b]/\H l=some (.lst xs)/\H b=some (.lst zs)/\xs.length + zs.length≤sizeLine/\Q .non (upd H l (.lst (xs ++ zs)))
theorem qiM:MtM X "list.extend" qlD:=by
 intro pins s σ H x vs v us Q I rx rv h
 obtain ⟨l,b,xs,zs,rfl,rfl,hH,hB,hz,q⟩:=h
 cases rx
 obtain ⟨u,rfl,ru⟩:=rv.one
 cases ru
 obtain ⟨z,its,n,r,hl,e⟩:=I.lstM hH
 obtain ⟨z2,its2,n2,r2,hl2,e2⟩:=I.lstM hB
 have hsz:its.toArray.size + its2.toArray.size≤sizeLine:=by rw [List.size_toArray,List.size_toArray]; omega
 have hlong:¬ (!its.toArray.isEmpty && Builtin.List.listTooLong (its.toArray.size + its2.toArray.size))=true:=by
  rw [qgL hsz,Bool.and_false]
  exact Bool.false_ne_true
 refine call_meets F.slot_list_extend ⟨_,e,rfl⟩ F.entry_list_extend (F.args_list_extend_2 _ _)
  (AutoSeq1.list_extend_list_list_0 l its.toArray n b its2.toArray n2 hlong (by rw [List.size_toArray]; omega) (by omega)) ⟨e,e2,?_⟩
 refine ⟨.non,_,I.lset (its':=its ++ its2) hH e (by simp) (r.append r2) ?_,rfl,q⟩
 rw [List.length_append]
 omega
def rRep:R2:=fun x y H Q=>∃ l k xs,x = .ref l/\y = .int k/\H l=some (.lst xs)/\-(2 ^ 63)≤k/\k < 2 ^ 63/\xs.length * k.toNat≤sizeLine /\
 ∀ p,H p=none->Q (.ref p) (upd H p (.lst (List.replicate k.toNat xs).flatten))
theorem len_rep {α:Type}(xs:List α)(k:Nat):(List.replicate k xs).flatten.length=k * xs.length:=by
 induction k with
 | zero=>simp
 | succ k ih=>rw [List.replicate_succ,List.flatten_cons,List.length_append,ih,Nat.succ_mul,Nat.add_comm]
theorem qix:OpR X (binaryOp .Mult) rRep:=by
 intro pins s σ H x y v u Q I rx ry h
 obtain ⟨l,k,xs,rfl,rfl,hH,h1,h2,hz,q⟩:=h
 cases rx
 obtain ⟨t,rfl⟩:=ry
 obtain ⟨z,its,n,r,hl,e⟩:=I.lstM hH
 have hlen:its.toArray.size * k.toNat≤sizeLine:=by rw [List.size_toArray,<- hl]; exact hz
 have hcap:¬ its.toArray.size * k.toNat > (2 ^ 63 - 1) / 8:=by
  have:(sizeLine:Nat)≤(2 ^ 63 - 1) / 8:=by decide
  omega
 have hfit:¬ (!Builtin.List.listFitsIndex k)=true:=by
  rw [fitsIndex_both h1 h2]
  exact Bool.false_ne_true
 have hlong:¬ Builtin.List.listTooLong (its.toArray.size * k.toNat)=true:=by
  rw [qgL hlen]
  exact Bool.false_ne_true
 have hnew:List.foldl (fun x1 x2=>x1 ++ x2) #[] (List.replicate (if its.toArray.isEmpty=true then 0 else k.toNat) its.toArray)=(List.replicate k.toNat its).flatten.toArray:=by
  have f0:∀ m:Nat,List.foldl (fun x1 x2=>x1 ++ x2) #[] (List.replicate m its.toArray)=(List.replicate m its).flatten.toArray:=fun m=>by
   have:=foldl_rep its m []
   rw [List.nil_append] at this
   exact this
  rw [f0]
  cases its with
  | nil=>simp
  | cons a r'=>rw [if_neg (by simp)]
 refine wpAny_binaryOp_repeat_ref (T := "list") (U := "int") (by decide) ⟨_,e,rfl⟩ (fun s'=>typeIs_int s' k t) noFill_list_mul F.fills_int_mul F.slot_int_rmul repeat_list F.slot_int_index.lookup
  (call_meets F.slot_int_rmul (typeIs_int s k t) F.entry_int_rmul (F.args_int_rmul_2 _ _) (int___rmul___int_list k t l its.toArray n)
    ⟨e,rfl,⟨_,e,rfl⟩,call_meets F.slot_list_mul ⟨_,e,rfl⟩ F.entry_list_mul (F.args_list_mul_2 _ _) (AutoListH.list___mul___list_int_3 l its.toArray n k t hfit hcap hlong) ⟨e,?_⟩⟩)
 rw [hnew]
 exact ⟨.ref _,_,I.lnew (t':=s.toks) (r.rep k.toNat) (by rw [len_rep,Nat.mul_comm]; exact hz),rfl,q _ I.fresh⟩
end
section
variable {κ:Type}[DecidableEq κ]
def valV (kvs:List (κ × V))(k:κ):Option V:=(kvs.find? fun kv=>decide (kv.1=k)).map (·.2)
def putK (kvs:List (κ × V))(k:κ)(v:V):List (κ × V) :=
 if (kvs.any fun kv=>decide (kv.1=k))=true then kvs.map (fun kv=>if kv.1=k then (kv.1,v) else kv) else kvs ++ [(k,v)]
theorem qca {p:κ × V}{r:List (κ × V)}{k:κ}(e:p.1=k):valV (p :: r) k=some p.2:=by simp [valV,List.find?_cons,e]
theorem qcb {p:κ × V}{r:List (κ × V)}{k:κ}(e:¬ p.1=k):valV (p :: r) k=valV r k:=by simp [valV,List.find?_cons,e]
theorem qge (k:κ):∀ kvs:List (κ × V),(kvs.any fun kv=>decide (kv.1=k))=(valV kvs k).isSome
 | []=>rfl
 | p :: r=>by
  rw [List.any_cons]
  by_cases e:p.1=k
  ·simp only [qca e,decide_eq_true e,Bool.true_or,Option.isSome_some]
  ·rw [qcb e,decide_eq_false e,Bool.false_or]; exact qge k r
theorem qbo (kvs:List (κ × V))(k:κ)(v:V):(putK kvs k v).length≤kvs.length + 1:=by
 unfold putK
 split
 ·rw [List.length_map]; omega
 ·rw [List.length_append,List.length_cons,List.length_nil]; omega
theorem RelO.isSome_eq {o:Option V}{u:Option Value}(r:RelO o u):o.isSome=u.isSome:=by
 cases o with
 | none=>cases u with
  | none=>rfl
  | some _=>exact (show False from r).elim
 | some _=>cases u with
  | none=>exact (show False from r).elim
  | some _=>rfl
theorem RelO.getD {o:Option V}{u:Option Value}{d:V}{d':Value}(r:RelO o u)(rd:RelV d d'):RelV (o.getD d) (u.getD d'):=by
 cases o with
 | none=>cases u with
  | none=>exact rd
  | some _=>exact (show False from r).elim
 | some _=>cases u with
  | none=>exact (show False from r).elim
  | some _=>exact r
theorem KV.val {kvs:List (κ × V)}{vs:List (κ × Value)}(r:KV kvs vs)(k:κ):RelO (valV kvs k) (valueAt vs k):=by
 unfold KV at r
 induction r with
 | nil=>exact True.intro
 | @cons p q ps qs h t ih =>
  obtain ⟨h1,h2⟩:=h
  by_cases e:p.1=k
  ·have e':q.1=k:=h1.symm.trans e
   have b:valueAt (q :: qs) k=some q.2:=by simp [valueAt,List.find?_cons,e']
   rw [qca e,b]; exact h2
  ·have e':¬ q.1=k:=fun z=>e (h1.trans z)
   have b:valueAt (q :: qs) k=valueAt qs k:=by simp [valueAt,List.find?_cons,e']
   rw [qcb e,b]; exact ih
theorem KV.any {kvs:List (κ × V)}{vs:List (κ × Value)}(r:KV kvs vs)(k:κ):(kvs.any fun kv=>decide (kv.1=k))=vs.any fun kv=>decide (kv.1=k):=by
 unfold KV at r
 induction r with
 | nil=>rfl
 | cons h t ih=>rw [List.any_cons,List.any_cons,ih,h.1]
theorem KV.repl {kvs:List (κ × V)}{vs:List (κ × Value)}(r:KV kvs vs)(k:κ){y:V}{u:Value}(ry:RelV y u) :
  KV (kvs.map fun kv=>if kv.1=k then (kv.1,y) else kv) (vs.map fun kv=>if kv.1=k then (kv.1,u) else kv):=by
 unfold KV at r ⊢
 induction r with
 | nil=>exact .nil
 | @cons p q ps qs h t ih =>
  rw [List.map_cons,List.map_cons]
  refine .cons ?_ ih
  obtain ⟨h1,h2⟩:=h
  by_cases e:p.1=k
  ·rw [if_pos e,if_pos (h1.symm.trans e)]; exact ⟨h1,ry⟩
  ·rw [if_neg e,if_neg (fun z=>e (h1.trans z))]; exact ⟨h1,h2⟩
theorem KV.put {kvs:List (κ × V)}{vs:List (κ × Value)}(r:KV kvs vs)(k:κ){y:V}{u:Value}(ry:RelV y u):KV (putK kvs k y) (stored vs k u):=by
 unfold putK stored
 rw [r.any k]
 by_cases e:(vs.any fun kv=>decide (kv.1=k))=true
 ·rw [if_pos e,if_pos e]; exact r.repl k ry
 ·rw [if_neg e,if_neg e]; exact Paired.snoc r ⟨rfl,ry⟩
theorem KV.length {kvs:List (κ × V)}{vs:List (κ × Value)}(r:KV kvs vs):kvs.length=vs.length:=Paired.length r
end
theorem qhx {P:Program}{w:World}{k:Key}{u:Value}(r:RelV (kV k) u):(qau P w).is k u=true:=by
 cases k with
 | inl i=>obtain ⟨t,e⟩:=(show ∃ t,u=Value.int i t from r); subst e; exact qfZ P w i t
 | inr x=>obtain ⟨t,e⟩:=(show ∃ t,u=Value.str x t from r); subst e; exact qfY P w x t
theorem qfd {P:Program}{w:World}:∀ {ks:List Key} {us:List Value},Vals (ks.map kV) us->ItemsAre (qau P w) ks us
 | [],_,r=>by rw [List.map_nil] at r; cases r; exact .nil
 | k :: ks,_,r=>by
  rw [List.map_cons] at r
  cases r with
  | cons h t=>exact .cons (qhx h) (qfd t)
abbrev KT (H:Hp):List (List Key × V)->List (List Key × Addr × Value)->Prop:=Paired fun p q=>p.1=q.1/\H q.2.1=some (.tup (p.1.map kV))/\RelV p.2 q.2.2
theorem KT.val {H:Hp}{kvs:List (List Key × V)}{xs:List (List Key × Addr × Value)}(r:KT H kvs xs)(k:List Key):RelO (valV kvs k) ((atKey xs k).map (·.2)):=by
 induction r with
 | nil=>exact True.intro
 | @cons p q ps qs h t ih =>
  obtain ⟨h1,_,h2⟩:=h
  by_cases e:p.1=k
  ·have e':q.1=k:=h1.symm.trans e
   have b:atKey (q :: qs) k=some q.2:=by simp [atKey,List.find?_cons,e']
   rw [qca e,b]; exact h2
  ·have e':¬ q.1=k:=fun z=>e (h1.trans z)
   have b:atKey (q :: qs) k=atKey qs k:=by simp [atKey,List.find?_cons,e']
   rw [qcb e,b]; exact ih
theorem KT.repl {H:Hp}{kvs:List (List Key × V)}{xs:List (List Key × Addr × Value)}(r:KT H kvs xs)(k:List Key){y:V}{u:Value}(ry:RelV y u) :
  KT H (kvs.map fun kv=>if kv.1=k then (kv.1,y) else kv) (xs.map (putAt k u)):=by
 induction r with
 | nil=>exact .nil
 | @cons p q ps qs h t ih =>
  rw [List.map_cons,List.map_cons]
  refine .cons ?_ ih
  obtain ⟨h1,h2,h3⟩:=h
  unfold putAt
  by_cases e:p.1=k
  ·rw [if_pos e,if_pos (h1.symm.trans e)]; exact ⟨h1,h2,ry⟩
  ·rw [if_neg e,if_neg (fun z=>e (h1.trans z))]; exact ⟨h1,h2,h3⟩
theorem KT.put {H:Hp}{kvs:List (List Key × V)}{xs:List (List Key × Addr × Value)}(r:KT H kvs xs)(k:List Key){b:Addr}{y:V}{u:Value}(hb:H b=some (.tup (k.map kV)))(ry:RelV y u) :
  KT H (putK kvs k y) (storedH xs k b u):=by
 have e:(kvs.any fun kv=>decide (kv.1=k))=(atKey xs k).isSome:=by
  rw [qge,(r.val k).isSome_eq,Option.isSome_map]
 unfold putK storedH
 rw [e]
 by_cases q:(atKey xs k).isSome=true
 ·rw [if_pos q,if_pos q]; exact r.repl k ry
 ·rw [if_neg q,if_neg q]; exact Paired.snoc r ⟨rfl,hb,ry⟩
theorem KT.keeps {H H':Hp}{kvs:List (List Key × V)}{xs:List (List Key × Addr × Value)}(r:KT H kvs xs)(ht:∀ b ys,H b=some (.tup ys)->H' b=some (.tup ys)):KT H' kvs xs :=
 Paired.mapP r fun _ _ z=>⟨z.1,ht _ _ z.2.1,z.2.2⟩
section
variable {P:Program}{w:World}{H:Hp}{h:Heap}{a:Addr}
theorem qlB {u:HO}(ok:HOk P w H h)(e:Rd H a u):qaR P w H h a u:=e.ok ok
theorem qjj {kvs:List (Key × V)}(ok:HOk P w H h)(e:Rd H a (.dK kvs)):kvs.length≤sizeLine/\(a == sysModules)=false/\∃ vs,KV kvs vs/\h.DictOf (qau P w) a vs :=
 show qaR P w H h a (.dK kvs) from qlB ok e
theorem qnB {kvs:List (Key × V)}(ok:HOk P w H h)(e:H a=some (.dK kvs)):kvs.length≤sizeLine/\(a == sysModules)=false/\∃ vs,KV kvs vs/\h.DictOf (qau P w) a vs:=qjj ok (.inl e)
theorem qdq {ks:List Key}(ok:HOk P w H h)(e:H a=some (.tup (ks.map kV))):(tupleKind (qau P w)).is h ks a:=by
 obtain ⟨_,its,r,o,h1,h2,n,h3,_⟩:=(show qaR P w H h a (.tup (ks.map kV)) from ok a _ e)
 exact ⟨o,its.toArray,n,h1,h2,h3,by simpa using qfd r⟩
theorem qji {kvs:List (List Key × V)}(ok:HOk P w H h)(e:Rd H a (.dT kvs)):kvs.length≤sizeLine/\(a == sysModules)=false /\
  ∃ xs,KT H kvs xs/\h.DictOfH (tupleKind (qau P w)) a xs:=by
 obtain ⟨z,y,xs,r,o,es,ep,h1,h2,h3,h4,h5⟩:=(show qaR P w H h a (.dT kvs) from qlB ok e)
 refine ⟨z,y,xs,r,o,es,ep,h1,h2,h3,h4,fun x hx=>?_,h5⟩
 have all:∀ {l:List (List Key × V)} {m:List (List Key × Addr × Value)},KT H l m->∀ x∈m,(tupleKind (qau P w)).is h x.1 x.2.1:=by
  intro l m q
  induction q with
  | nil=>intro x hx; exact nomatch hx
  | @cons p q ps qs hq t ih =>
   intro x hx
   rcases List.mem_cons.mp hx with e | hx
   ·subst e
    exact qdq ok (by rw [<- hq.1]; exact hq.2.1)
   ·exact ih x hx
 exact all r x hx
theorem qkE {kvs:List (List Key × V)}(ok:HOk P w H h)(e:H a=some (.dT kvs)):kvs.length≤sizeLine/\(a == sysModules)=false /\
  ∃ xs,KT H kvs xs/\h.DictOfH (tupleKind (qau P w)) a xs:=qji ok (.inl e)
end
def DGet (H:Hp)(a:Addr)(y:V)(r:Option V):Prop :=
 (∃ kvs k,Rd H a (.dK kvs)/\y=kV k/\r=valV kvs k)\/∃ kvs k b,Rd H a (.dT kvs)/\y = .ref b/\H b=some (.tup (k.map kV))/\r=valV kvs k
def DPut (H:Hp)(a:Addr)(y v:V)(H':Hp):Prop :=
 (∃ kvs k,H a=some (.dK kvs)/\y=kV k/\kvs.length < sizeLine/\H'=upd H a (.dK (putK kvs k v))) \/
 ∃ kvs k b,H a=some (.dT kvs)/\y = .ref b/\H b=some (.tup (k.map kV))/\kvs.length < sizeLine/\H'=upd H a (.dT (putK kvs k v))
theorem DGet.k {H:Hp}{a:Addr}{kvs:List (Key × V)}{k:Key}(e:H a=some (.dK kvs)):DGet H a (kV k) (valV kvs k) := .inl ⟨kvs,k,.inl e,rfl,rfl⟩
theorem DGet.t {H:Hp}{a b:Addr}{kvs:List (List Key × V)}{k:List Key}(e:H a=some (.dT kvs))(eb:H b=some (.tup (k.map kV))):DGet H a (.ref b) (valV kvs k) := .inr ⟨kvs,k,b,.inl e,rfl,eb,rfl⟩
theorem DPut.k {H:Hp}{a:Addr}{kvs:List (Key × V)}{k:Key}{v:V}(e:H a=some (.dK kvs))(hl:kvs.length < sizeLine):DPut H a (kV k) v (upd H a (.dK (putK kvs k v))) := .inl ⟨kvs,k,e,rfl,hl,rfl⟩
theorem DPut.t {H:Hp}{a b:Addr}{kvs:List (List Key × V)}{k:List Key}{v:V}(e:H a=some (.dT kvs))(eb:H b=some (.tup (k.map kV)))(hl:kvs.length < sizeLine) :
  DPut H a (.ref b) v (upd H a (.dT (putK kvs k v))) := .inr ⟨kvs,k,b,e,rfl,eb,hl,rfl⟩
section
variable {X:Cx}{pins:List (Addr × Obj)}{σ:St}{H:Hp}{s:Shared}{a:Addr}{y v:V}{u r:Value}{o:Option V}{A:Around}{E:Value->Shared->Prop}
theorem Inv.big (I:Inv X pins σ H s):sysModules < s.heap.objs.size:=by
 have h:mainGlobals < s.heap.objs.size:=(I.mod.glob.keeps I.bk).lt
 exact Nat.lt_trans (by decide) h
theorem qjo {Q:Value->Shared->Prop}(hu:A.units + 1 < cLine)(I:Inv X pins σ H s)(g:DGet H a y (some v))(ry:RelV y u)(h:∀ w' s',Inv X pins σ H s'->RelV v w'->Q w' s') :
  wpAny (model X.prog X.w) A (getItem (.ref a) u) Q E s:=by
 rcases g with ⟨kvs,k,e,ey,l⟩ | ⟨kvs,k,b,e,ey,eb,l⟩
 ·subst ey
  obtain ⟨z,hd,vs,rel,dd⟩:=qjj I.hok e
  obtain ⟨w',hw,rw'⟩:=RelO.some_of (v:=v) (o:=valueAt vs k) (by rw [l]; exact rel.val k)
  exact wpAny_getItem_of (qhx ry) dd.mapOf hw (h w' _ (I.tok _) rw')
 ·subst ey
  cases (show u=Value.ref b from ry)
  obtain ⟨z,hd,xs,rel,dd⟩:=qji I.hok e
  obtain ⟨w',hw,rw'⟩:=RelO.some_of (v:=v) (o:=(atKey xs k).map (·.2)) (by rw [l]; exact rel.val k)
  obtain ⟨p,hp,hp2⟩:=Option.map_eq_some_iff.mp hw
  refine wpAny_getItem_heap (tupleKind_room_in1 hu) (qdq I.hok eb) dd hp ?_
  rw [hp2]
  exact h w' _ (I.tok _) rw'
theorem qb6 {h':Heap}{t':Nat}{ob:HO}(I:Inv X pins σ H s)(mu:Mut (H a))(hs:Heap.SameBut a s.heap h')(he:∃ q,h'.get? a=some q)(new:qaR X.prog X.w (upd H a ob) h' a ob) :
  Inv X pins σ (upd H a ob) { s with heap:=h',toks:=t' } :=
 I.write (x:=a) (e:=a) mu (.inl rfl) (fun b q hb z=>(hs.2 b hb).trans z) he new
theorem qlf {P:Program}{w:World}{H':Hp}{h':Heap}{kvs:List (Key × V)}{vs:List (Key × Value)}(z:kvs.length≤sizeLine)(hd:(a == sysModules)=false)(rel:KV kvs vs)(dd:h'.DictOf (qau P w) a vs) :
  qaR P w H' h' a (.dK kvs):=⟨z,hd,vs,rel,dd⟩
theorem qjn {H':Hp}{Q:Unit->Shared->Prop}(hu:A.units + 1 < cLine)(I:Inv X pins σ H s)(g:DPut H a y v H')(ry:RelV y u)(rv:RelV v r)(h:∀ s',Inv X pins σ H' s'->Q () s') :
  wpAny (model X.prog X.w) A (setItem (.ref a) u r) Q E s:=by
 rcases g with ⟨kvs,k,e,ey,l,eH⟩ | ⟨kvs,k,b,e,ey,eb,l,eH⟩
 ·subst ey eH
  obtain ⟨z,hd,vs,rel,dd⟩:=qnB I.hok e
  have hz:vs.length≤sizeLine:=by rw [<- rel.length]; exact z
  have hl:(putK kvs k v).length≤sizeLine:=by have:=qbo kvs k v; omega
  refine wpAny_setItem_pairs (hsz:=hz) (qhx ry) dd fun h' dd' hs=>h _ ?_
  have he:∃ q,h'.get? a=some q:=let ⟨q,_,_,hq,_⟩:=dd'; ⟨q,hq⟩
  exact qb6 I (by rw [e]; exact True.intro) hs he (qlf hl hd (rel.put k rv) dd')
 ·subst ey eH
  cases (show u=Value.ref b from ry)
  obtain ⟨z,hd,xs,rel,dd⟩:=qkE I.hok e
  have hz:xs.length≤sizeLine:=by rw [<- Paired.length rel]; exact z
  have hl:(putK kvs k v).length≤sizeLine:=by have:=qbo kvs k v; omega
  refine wpAny_setItem_heap (hsz:=hz) (tupleKind_room_in1 hu) (qdq I.hok eb) dd fun h' dd' hs=>h _ ?_
  obtain ⟨q,es,ep,hq,h2,h3,h4,_,h5⟩:=dd'
  refine qb6 I (by rw [e]; exact True.intro) hs ⟨q,hq⟩ ⟨hl,hd,_,(rel.put k eb rv).keeps fun c ys ec=>?_,q,es,ep,hq,h2,h3,h4,h5⟩
  rw [uE (qb2 ec e (fun z=>nomatch z))]
  exact ec
end
def NoSl (i:Expr):Prop:=∀ ov iv,subscripted i false ov iv=operate [ov,iv] (getItem ov iv)
theorem qlu {prog:Program}{w:World}{A:Around}{E:Value->Shared->Prop}{s:Shared}{env:Env}{value slice:Expr}{pos:Pos}{T id:String}{Q:Value->Shared->Prop}
  (hl:typeLookup (.type T) "__getitem__" = pure (some (.builtin id))) (hs:NoSl slice)
  (h:wpAny (model prog w) A (eval value env) (fun o s₁=>wpAny (model prog w) A (eval slice env) (fun i s₂=>s₂.TypeIs o T/\wpAny (model prog w) A (getItem o i) Q E s₂) E s₁) E s) :
  wpAny (model prog w) A (eval (.Subscript value slice pos) env) Q E s:=by
 refine Subscript_ (wpAny_mono h (fun o s₁ h₁=>wpAny_mono h₁ (fun i s₂ h₂=>?_) fun _ _ x=>x) fun _ _ x=>x)
 obtain ⟨hT,h₂⟩:=h₂
 unfold subscriptTail
 refine wpAny_bind ?_
 rw [getitemInPython_of_ne hT.not_modules]
 refine wpAny_bind (wpAny_specialOf hT hl ?_)
 have fin:wpAny (model prog w) A (subscripted slice false o i) (fun r s₃=>wpAny (model prog w) A (letTemporaryGo value o r >>= fun _=>pure r) Q E s₃) E s₂:=by
  rw [hs o i]
  exact wpAny_operating (wpAny_mono h₂ (fun r s₃ h₃=>wpAny_bind (wpAny_letTemporaryGo (wpAny_pure h₃))) fun _ _ x=>x)
 first
  | exact wpAny_pure (wpAny_bind fin)
  | exact wpAny_bind (wpAny_pure (wpAny_bind fin))
  | exact wpAny_bind fin
theorem qf7 {X:Cx}{pins:List (Addr × Obj)}{σ:St}{H:Hp}{s:Shared}{a:Addr}{y:V}{o:Option V}(I:Inv X pins σ H s)(g:DGet H a y o):s.TypeIs (.ref a) "dict" := by
 rcases g with ⟨kvs,k,e,_,_⟩ | ⟨kvs,k,b,e,_,_,_⟩
 ·obtain ⟨_,_,vs,_,dd⟩:=qjj I.hok e
  exact dd.typeIs
 ·obtain ⟨_,_,xs,_,dd⟩:=qji I.hok e
  exact dd.typeIs
def tDGet (td ty:TE):TE:=fun σ H Q=>td σ H fun x H1=>ty σ H1 fun y H2=>∃ a v,x = .ref a/\DGet H2 a y (some v)/\Q v H2
def sDPut (td ty tv:TE):TS:=fun D σ H=>tv σ H fun v H1=>td σ H1 fun x H2=>ty σ H2 fun y H3=>∃ a H4,x = .ref a/\DPut H3 a y v H4/\D.nx σ H4
section
variable {X:Cx}{o i e value:Expr}{pos pos' tpos:Pos}{td ty tv:TE}
theorem qbr (hu:X.A.units + 1 < cLine)(ho:PE X o td)(hi:PE X i ty)(hs:NoSl i):PE X (.Subscript o i pos) (tDGet td ty):=by
 intro pins s σ H Q I h
 refine qlu PySem.F.slot_dict_getitem.lookup hs (thn (ho pins s σ H _ I h) fun u s1 ⟨x,H1,I1,rx,q1⟩=>thn (hi pins s1 σ H1 _ I1 q1) fun iv s2 ⟨y,H2,I2,ry,a,v,ex,g,q2⟩=>?_)
 subst ex
 obtain rfl:u=Value.ref a:=rx
 exact ⟨qf7 I2 g,qjo hu I2 g ry fun w' s3 I3 rw'=>⟨v,H2,I3,rw',q2⟩⟩
theorem qdf (hu:X.A.units + 1 < cLine)(ho:PE X o td)(hi:PE X i ty)(hv:PE X value tv)(hs:swapsWith value (some (.Subscript o i pos')) pos.line X.env=pure false) :
  PS X (.Assign [.Subscript o i pos'] value pos) (sDPut td ty tv):=by
 intro pins s σ H D I h
 refine wpAny_Assign_Subscript (thn (hv pins s σ H _ I h) fun r s1 ⟨v,H1,I1,rv,q1⟩=>thn (ho pins s1 σ H1 _ I1 q1) fun u s2 ⟨x,H2,I2,rx,q2⟩=>thn (hi pins s2 σ H2 _ I2 q2) fun iv s3 ⟨y,H3,I3,ry,a,H4,ex,g,q3⟩=>?_) hs
 subst ex
 obtain rfl:u=Value.ref a:=rx
 exact qjn hu I3 g ry rv fun s4 I4=>⟨σ,H4,I4,q3⟩
end
theorem qkG {P:Program}{w:World}{H:Hp}(h:Heap)(hb:sysModules < h.objs.size):qaR P w H (h.push { cls := .type "dict",data := .dict #[] }) h.objs.size (.dK []) :=
 ⟨Nat.zero_le _,beq_eq_false_iff_ne.mpr (Ne.symm (Nat.ne_of_lt hb)),[],.nil,Heap.DictOf.new h⟩
theorem qey {P:Program}{w:World}{H:Hp}(h:Heap)(hb:sysModules < h.objs.size):qaR P w H (h.push { cls := .type "dict",data := .dict #[] }) h.objs.size (.dT []) :=
 ⟨Nat.zero_le _,beq_eq_false_iff_ne.mpr (Ne.symm (Nat.ne_of_lt hb)),[],.nil,_,#[],0,Heap.get?_push_size _ rfl,⟨rfl,rfl,rfl⟩,rfl,rfl,List.nodup_nil⟩
def qmN:TE:=fun _ H Q=>∀ p,H p=none->Q (.ref p) (upd H p (.dT []))
section
variable {X:Cx}{pos:Pos}
theorem qei:PE X (.Dict [] [] pos) qmN:=fun pins s σ H Q I h =>
 wpAny_Dict_empty ⟨.ref s.heap.objs.size,_,I.laid (a:=s.heap.objs.size) (o := .dT []) (t':=s.toks) (fun _ _ q=>Heap.get?_push_of_some _ q) (Nat.le_refl _) (qey s.heap I.big),rfl,h _ (I.hok.fresh (Nat.le_refl _))⟩
end
def qh2:List (TE × TE)->St->Hp->(List (V × V)->Hp->Prop)->Prop
 | [],_,H,Q=>Q [] H
 | (tk,tv) :: r,σ,H,Q=>tk σ H fun x H1=>tv σ H1 fun y H2=>qh2 r σ H2 fun ps H3=>Q ((x,y) :: ps) H3
abbrev VV:List (V × V)->List (Value × Value)->Prop:=Paired fun p q=>RelV p.1 q.1/\RelV p.2 q.2
def PPs (X:Cx)(pos:Pos)(keys:List (Option Expr))(values:List Expr)(trs:List (TE × TE)):Prop :=
 ∀ (pins:List (Addr × Obj)) (s:Shared) (σ:St) (H:Hp) (Q:List (V × V)->Hp->Prop),Inv X pins σ H s->qh2 trs σ H Q ->
  wpAny (model X.prog X.w) X.A (evalPairs (pairTrees keys values X.env pos)) (fun vs s'=>∃ ps H',Inv X pins σ H' s'/\VV ps vs/\Q ps H') X.xe s
theorem qlL {X:Cx}{pos:Pos}:PPs X pos [] [] []:=fun pins s σ H Q I h=>pairTrees_nil_walk ⟨[],H,I,.nil,h⟩
theorem qeh {X:Cx}{pos:Pos}{k v:Expr}{ks:List (Option Expr)}{vs:List Expr}{tk tv:TE}{trs:List (TE × TE)}(hk:PE X k tk)(hv:PE X v tv)(hr:PPs X pos ks vs trs) :
  PPs X pos (some k :: ks) (v :: vs) ((tk,tv) :: trs):=fun pins s σ H Q I h =>
 pairTrees_cons_walk (thn (hk pins s σ H _ I h) fun u s1 ⟨x,H1,I1,rx,q1⟩=>thn (hv pins s1 σ H1 _ I1 q1) fun w2 s2 ⟨y,H2,I2,ry,q2⟩ =>
  thn (hr pins s2 σ H2 _ I2 q2) fun ws s3 ⟨ps,H3,I3,rel,q3⟩=>⟨(x,y) :: ps,H3,I3,.cons ⟨rx,ry⟩ rel,q3⟩)
def qe7 (kvs more:List (Key × V)):List (Key × V):=more.foldl (fun acc kv=>putK acc kv.1 kv.2) kvs
theorem KV.merge:∀ {more:List (Key × V)} {rs:List (Key × Value)} {kvs:List (Key × V)} {vs:List (Key × Value)},KV more rs->KV kvs vs->KV (qe7 kvs more) (merged vs rs):=by
 intro more rs kvs vs r
 unfold KV at r
 induction r generalizing kvs vs with
 | nil=>intro q; exact q
 | @cons p q ps qs h t ih =>
  intro r0
  have e:KV (putK kvs p.1 p.2) (stored vs q.1 q.2):=by
   have:=r0.put p.1 h.2
   rw [<- h.1]; exact this
  exact ih e
theorem qcn:∀ (more kvs:List (Key × V)),(qe7 kvs more).length≤kvs.length + more.length
 | [],kvs=>by show kvs.length≤kvs.length + 0; omega
 | p :: r,kvs=>by
  have h1:=qcn r (putK kvs p.1 p.2)
  have h2:=qbo kvs p.1 p.2
  show (qe7 (putK kvs p.1 p.2) r).length≤_
  rw [List.length_cons]; omega
theorem qdZ {P:Program}{w:World}:∀ {kvs:List (Key × V)} {ws:List (Value × Value)},VV (kvs.map fun kv=>(kV kv.1,kv.2)) ws->∃ rs,Carries (qau P w) ws rs/\KV kvs rs
 | [],_,r=>by rw [List.map_nil] at r; cases r; exact ⟨[],True.intro,.nil⟩
 | p :: kvs,_,r=>by
  rw [List.map_cons] at r
  cases r with
  | @cons a b as bs h t =>
   obtain ⟨rs,c,q⟩:=qdZ (P:=P) (w:=w) t
   obtain ⟨b1,b2⟩:=b
   exact ⟨(p.1,b2) :: rs,⟨qhx h.1,rfl,c⟩,.cons ⟨rfl,h.2⟩ q⟩
def tDisp (trs:List (TE × TE)):TE:=fun σ H Q=>∀ p,H p=none->qh2 trs σ (upd H p (.dK [])) fun ps H2=>H2 p=some (.dK [])/\∃ kvs:List (Key × V),ps=kvs.map (fun kv=>(kV kv.1,kv.2))/\kvs.length≤15/\Q (.ref p) (upd H2 p (.dK (qe7 [] kvs)))
theorem qlO {X:Cx}{pos:Pos}{keys:List (Option Expr)}{values:List Expr}{trs:List (TE × TE)}(h:PPs X pos keys values trs)(hall:keys.all (·.isSome)=true)(hl:keys.length=values.length)(h0:keys≠[])
  (h15:keys.length≤15):PE X (.Dict keys values pos) (tDisp trs):=by
 intro pins s σ H Q I q
 have hn:=I.hok.fresh (Nat.le_refl s.heap.objs.size)
 have I1:=I.laid (a:=s.heap.objs.size) (o := .dK []) (h':=s.heap.push { cls := .type "dict",data := .dict #[] }) (t':=s.toks) (fun _ _ q=>Heap.get?_push_of_some _ q) (Nat.le_refl _) (qkG s.heap I.big)
 refine wpAny_Dict_walk (knd:=qau X.prog X.w) hall hl h0 h15 (thn (h pins _ σ _ _ I1 (q _ hn)) fun ws s2 ⟨ps,H2,I2,rel,e,kvs,ep,lk,q2⟩=>?_)
 subst ep
 obtain ⟨rs,c,rk⟩:=qdZ (P:=X.prog) (w:=X.w) rel
 obtain ⟨z,hd,vs0,r0,dd⟩:=qnB I2.hok e
 cases r0
 refine ⟨rs,c,dd,fun h' dd' hs=>⟨.ref s.heap.objs.size,_,?_,rfl,q2⟩⟩
 have hz:(qe7 [] kvs).length≤sizeLine:=by
  have h1:=qcn kvs []
  rw [List.length_nil] at h1
  rw [sizeLine_eq]; omega
 have he:∃ q,h'.get? s.heap.objs.size=some q:=let ⟨q,_,_,hq,_⟩:=dd'; ⟨q,hq⟩
 exact qb6 I2 (by rw [e]; exact True.intro) hs he (qlf hz hd (rk.merge .nil) dd')
structure M2 (X:Cx)(o:Expr)(m:Str)(apos:Pos)(e f:Expr)(cpos:Pos):Prop where
 base:attributeBase o m X.env (eval o X.env)=eval o X.env
 few:((backTo cpos (starEach [e,f] X.env)).all (fun x=>!x.1) && (backToKw cpos (keywordEach [] X.env)).all (fun x=>x.1.isSome)
  && decide (([e,f]:List Expr).length + ([]:List Keyword).length + (if ([]:List Keyword).isEmpty then 0 else 1) < 30))=true
 line:(apos.endLine == cpos.line)=true
 trees:backTo cpos (starEach [e,f] X.env)=[(false,eval e X.env),(false,eval f X.env)]
def IsD (H:Hp)(a:Addr):Prop:=(∃ kvs,Rd H a (.dK kvs))\/∃ kvs,Rd H a (.dT kvs)
theorem qk8 {X:Cx}{pins:List (Addr × Obj)}{σ:St}{H:Hp}{s:Shared}{a:Addr}(I:Inv X pins σ H s)(d:IsD H a) :
  s.TypeIs (.ref a) "dict" /\ (∀ b,Value.ref a = .ref b->∃ ob,s.heap.get? b=some ob/\ob.dict=none)/\(a == sysModules)=false:=by
 rcases d with ⟨kvs,e⟩ | ⟨kvs,e⟩
 ·obtain ⟨_,hd,vs,_,dd⟩:=qjj I.hok e
  refine ⟨dd.typeIs,fun b q=>?_,hd⟩
  cases q
  obtain ⟨ob,_,_,h1,h2,_⟩:=dd
  exact ⟨ob,h1,h2.2.1⟩
 ·obtain ⟨_,hd,xs,_,dd⟩:=qji I.hok e
  refine ⟨dd.typeIs,fun b q=>?_,hd⟩
  cases q
  obtain ⟨ob,_,_,h1,h2,_⟩:=dd
  exact ⟨ob,h1,h2.2.1⟩
section
variable {X:Cx}{pins:List (Addr × Obj)}{σ:St}{H:Hp}{s:Shared}{a:Addr}{y d:V}{u r:Value}{o:Option V}{A:Around}{E:Value->Shared->Prop}
theorem qnC {Q:Value->Shared->Prop}(hu:A.units + 1 < cLine)(I:Inv X pins σ H s)(g:DGet H a y o)(ry:RelV y u)(rd:RelV d r)(h:∀ w' s',Inv X pins σ H s'->RelV (o.getD d) w'->Q w' s') :
  wpAny (model X.prog X.w) A (call (.builtin "dict.get") [.ref a,u,r]) Q E s:=by
 rcases g with ⟨kvs,k,e,ey,l⟩ | ⟨kvs,k,b,e,ey,eb,l⟩
 ·subst ey
  obtain ⟨z,hd,vs,rel,dd⟩:=qjj I.hok e
  refine call_meetsIn PySem.F.slot_dict_get dd.typeIs PySem.F.entry_dict_get (PySem.F.args_dict_get_3 _ _ _) (meets_dict_get_default (qau X.prog X.w) a (qhx ry) hd r) ⟨_,dd.mapOf,h _ _ (I.tok _) ?_⟩
  rw [l]
  exact (rel.val k).getD rd
 ·subst ey
  cases (show u=Value.ref b from ry)
  obtain ⟨z,hd,xs,rel,dd⟩:=qji I.hok e
  refine call_meetsIn PySem.F.slot_dict_get dd.typeIs PySem.F.entry_dict_get (PySem.F.args_dict_get_3 _ _ _) (meetsH_dict_get_default (tupleKind (qau X.prog X.w)) a b hd r) ⟨tupleKind_room_in1 hu,k,xs,qdq I.hok eb,dd,h _ _ (I.tok _) ?_⟩
  rw [l]
  exact (rel.val k).getD rd
end
def qmO (td ty tx:TE):TE:=fun σ H Q=>td σ H fun x H1=>∃ a,x = .ref a/\IsD H1 a/\ty σ H1 fun y H2=>tx σ H2 fun z H3=>∃ o,DGet H3 a y o/\Q (o.getD z) H3
section
variable {X:Cx}{o e f:Expr}{apos cpos:Pos}{td ty tx:TE}
theorem qgH (hu:X.A.units + 1 < cLine)(ho:PE X o td)(he:PE X e ty)(hf:PE X f tx)(m:M2 X o "get" apos e f cpos):PE X (.Call (.Attribute o "get" apos) [e,f] [] cpos) (qmO td ty tx):=by
 intro pins s σ H Q I h
 refine wpAny_Call_method m.base m.few m.line PySem.F.plainAttrs_dict PySem.F.slot_dict_get PySem.F.type_dict_get (thn (ho pins s σ H _ I h) fun u s1 ⟨x,H1,I1,rx,a,ex,d,q1⟩=>?_)
 subst ex
 obtain rfl:u=Value.ref a:=rx
 obtain ⟨t1,t2,_⟩:=qk8 I1 d
 refine ⟨t1,t2,?_⟩
 rw [m.trees]
 refine Calls.callWith_builtin rfl (Calls.evalArgs_plain (Calls.spliced_cons (thn (he pins s1 σ H1 _ I1 q1) fun iv s2 ⟨y,H2,I2,ry,q2⟩ =>
  Calls.spliced_cons (thn (hf pins s2 σ H2 _ I2 q2) fun fv s3 ⟨z,H3,I3,rz,ov,g,q3⟩=>Calls.spliced_nil ?_))))
 exact qnC hu I3 g ry rz fun w' s4 I4 rw'=>⟨_,H3,I4,rw',q3⟩
end
end L2
namespace Att
open PySem PySem.W PySem.Calls PyProof.Rows
theorem qdr {P:Params}{h:Heap}:∀ (ns:List Int) (vs:List Value),WellAll P h vs (ns.map WData.int)->IntsAre vs ns:=by
 intro ns
 induction ns with
 | nil =>
  intro vs w
  rw [List.map_nil] at w
  cases w
  exact .nil
 | cons n ns ih =>
  intro vs w
  rw [List.map_cons] at w
  cases w with
  | cons a b =>
   cases a
   exact .cons _ _ (ih _ b)
theorem qih {l:OpenLaw}{n:Nat}(hn:l.most=some n){P:Params}{h:Heap}{args:List WData}{vals:List Value}
  (hpre:l.row.toRowW.claim.pre args=true) (hwl:WellAll P h vals args) :
  ∃ a vs ns,vals=[Value.ref a]/\args=[WData.list (ns.map WData.int)]/\h.get? a=some { cls := .type "list",data := .seq vs.toArray }/\IntsAre vs ns/\ns.length≤n:=by
 have hsh:WShape.hasAll [] args [.list .int]=true:=(pre_splitW hpre).1
 have hc:l.pre.holds [] { args:=args }=true:=(pre_splitW hpre).2
 obtain ⟨d,r,rfl,h1,h2⟩:=hasAllW_cons hsh
 obtain rfl:=hasAllW_nil h2
 obtain ⟨xs,rfl,h3⟩:=hasW_list h1
 obtain ⟨ns,rfl⟩:=items_int h3
 have hlen:ns.length≤n:=by
  unfold OpenLaw.pre at hc
  have h4:(WTm.not (.lt (.lit (.int (n:Int))) (.len (.arg 0)))).holds [] { args:=[.list (ns.map .int)] }=true:=by
   have h4:=(holds_andW hc).1
   rw [hn] at h4
   exact h4
  have h5:=condW_of h4 (w_not (w_lt w_lit (w_len_list (w_arg rfl))))
  rw [List.length_map] at h5
  refine Nat.le_of_not_lt fun q=>?_
  have q':(n:Int) < ((ns.length:Nat):Int):=by omega
  first
   | (rw [decide_eq_true q'] at h5; exact absurd h5 (by decide))
   | (simp at h5; omega)
 cases hwl with
 | cons w1 w2 =>
  cases w2
  cases w1 with
  | list ho hall=>exact ⟨_,_,ns,rfl,rfl,ho,qdr ns _ hall,hlen⟩
theorem qio (l:OpenLaw)(args:List WData):l.row.toRowW.claim.post args (.bool true) args=true :=
 postW_of (r:=l.row.toRowW) (X:=(true == true))
  (show WShape.has [] (.bool true) .bool=true by first | rfl | decide | simp [WShape.has,WShape.arms,WShape.armsAll])
  (show (WTm.eq .res (.lit (.bool true))).value [] { args:=args,res:=some (.bool true),after:=args }=some (.bool (true == true)) from w_eq_bool (w_res rfl) w_lit) rfl
theorem attach_call {l:OpenLaw}{n:Nat}{q:Program}{loose:List Str}{XP:(Str->Option Value)->Heap->Prop}{YP:World->Heap->Prop}{d:DefRec}
  (hn:l.most=some n) (hdf:d.params.defaults=[])
  (call:∀ (w:World) (s₀ s₁:Shared) (mg mb:Str->Option Value) (fa:Addr) (o:Obj) (pm cd doc:Value) (a:Addr) (vs:List Value) (ns:List Int),
    Ground q loose [] XP w s₀ mg mb s₁.heap->YP w s₁.heap ->
    s₁.heap.get? fa=some o->o.data = .func (docDef d.name d.params d.body d.scope pm cd doc)->s₁.heap.CodeRec cd d.name->mg d.name=some (.ref fa) ->
    s₁.heap.get? a=some { cls := .type "list",data := .seq vs.toArray }->IntsAre vs ns->ns.length≤n->s₁.gens=#[] ->
    codeAny (model l.prog w) callerA (.call (.ref fa) ⟨[.ref a],[]⟩) (fun r s'=>r = .ok (.ret (.bool true))/\OldK s₁.heap s'.heap/\s'.os=s₁.os/\AllBare s'.gens) s₁) :
  WalkO q loose XP YP l.row.toRowW d [] (fun f vs=>PySem.call f vs):=by
 intro w s₀ s₁ mg mb G Y fa o pm cd doc dV kV ho hd hcd hD hmg hg args vals as hpre hlay hrd hwl hlo
 obtain rfl:dV = .none:=Dflts.none hD hdf
 obtain rfl:kV = .none:=Dflts.noKw hD
 obtain ⟨a,vs,ns,rfl,rfl,hobj,hints,hlen⟩:=qih hn hpre hwl
 refine enter_call (codeAny_mono (call w s₀ s₁ mg mb fa o pm cd doc a vs ns G Y ho (fd_plain hd) hcd hmg hobj hints hlen hg) fun r s' hq=>?_)
 obtain ⟨rfl,h2,h3,h4⟩:=hq
 exact ⟨.inl ⟨.bool true,.bool true,[],rfl,fun _=>rfl,.bool true,qio l _,fun _=>⟨List.Pairwise.nil,fun _ hm=>(nomatch hm)⟩⟩,h2,h3,h4⟩
end Att
namespace L2
open PySem PySem.Spec PyProof.Rows
theorem qeG:∀ {vs:List Value} {ns:List Int},IntsAre vs ns->Vals (ns.map V.int) vs
 | _,_,.nil => .nil
 | _,_,.cons n t h => .cons ⟨t,rfl⟩ (qeG h)
abbrev KOf {K:PySem.W.Frag}{h:Heap}(_:K.In h):PySem.W.Frag:=K
end L2
/- THE LAST THEOREM (shape; LID,My.* are yours):
  My.Adr: a structure of the addresses that your layer names (classes,functions); My.Txt K t: a structure (Prop) of the equations over K;
  My.txt_mk:{K} {implicit addresses ..} (e1:nsIn K mainGlobals "law" = some (some (.ref f))) (e2:K.lookup f=some ⟨oc,od,.func (fnOf "law" "law" params body scope dV kV doc pm an cdv ct),sl⟩) (e3:codeIn K cdv "law" = true) ..:∃ t,My.Txt K t
(the tactic k_is has no namespace: write k_is) -/
namespace L2
open PySem PySem.Spec PyProof.Rows
def qbL (s:Stmt):Arguments:=match s with
 | .FunctionDef _ a _ _ _ _ _ _ _ _=>a
 | _=>{ posonlyargs:=[],args:=[],vararg:=none,kwonlyargs:=[],kw_defaults:=[],kwarg:=none,defaults:=[] }
def qbb (s:Stmt):List Stmt:=match s with
 | .FunctionDef _ _ b _ _ _ _ _ _ _=>b
 | _=>[]
def qae (s:Stmt):Scope:=match s with
 | .FunctionDef _ _ _ _ _ _ sc _ _ _=>sc
 | _=>{ kind := .function,names:=[],isGenerator:=false,isCoroutine:=false }
abbrev CX0:CXT:=fun _ _ _ _ _ _=>False
abbrev E0:XK:=fun _ _ _=>False
theorem pass0 {X:Cx}:qd2 CX0 X E0:=fun _ _ _ _ _ _ _ h=>h.elim
structure Fun (K:PySem.W.Frag)(x qual:Str)(st:Stmt)(f:Addr)(fd:FuncData):Prop where
 ex:∃ (oc:Value) (od:Option Addr) (kV doc pm:Value) (an:Option Addr) (cdv ct:Value) (osl:Array (Option Value)),
  fd=PySem.W.fnOf x qual (qbL st) (qbb st) (qae st) .none kV doc pm an cdv ct/\K.lookup f=some ⟨oc,od,.func fd,osl⟩/\PySem.W.codeIn K cdv qual=true
 kp:PySem.W.keepIn K (.ref f)=true
section
variable {P:Program}{w:World}{K:PySem.W.Frag}{mg:Str->Option Value}{base:Heap}
theorem Fun.ok {x qual:Str}{st:Stmt}{f:Addr}{fd:FuncData}{N ps:List Str}{k:Nat}{sp:Sp}(F:Fun K x qual st f fd)(S:qai N ps (qae st))(len:∀ vs H Q E,sp vs H Q E->vs.length=ps.length)
  (hbody:∀ (cdv:Value) (A:Around) (outer:List Env) (s:Shared) (H:Hp) (vs:List V) (Q:VK) (E:XK),Room k (A.deeper (envOfC qual (qae st) s.heap.objs.size f cdv))->sp vs H Q E ->
    ∃ t,PSs (cxOf CX0 P w K mg base N qual (qae st) f cdv A outer s H E).nox (qbb st) t/\t { nx:=fun _ H'=>Q .non H',rt:=Q } (start N vs) H):FnOk P w K mg base CX0 (k + 1) f fd ps sp:=by
 obtain ⟨oc,od,kV,doc,pm,an,cdv,ct,osl,rfl,lk,hcd⟩:=F.ex
 refine qmp lk hcd S len fun A outer s H vs Q E hr hsp=>?_
 obtain ⟨t,h,q⟩:=hbody cdv A outer s H vs Q E hr hsp
 exact ⟨t,h.nox,q⟩
theorem Fun.binds {x qual:Str}{st:Stmt}{f:Addr}{fd:FuncData}{ps:List Str}(F:Fun K x qual st f fd)
  (h:∀ (kV doc pm:Value) (an:Option Addr) (cdv ct:Value) (us:List Value),us.length=ps.length->bindArgs (PySem.W.fnOf x qual (qbL st) (qbb st) (qae st) .none kV doc pm an cdv ct) ⟨us,[]⟩=pure (ps.zip us)):Binds K fd ps []:=by
 obtain ⟨oc,od,kV,doc,pm,an,cdv,ct,osl,rfl,lk,hcd⟩:=F.ex
 exact .all (h kV doc pm an cdv ct)
theorem qld {x qual:Str}{st:Stmt}{f:Addr}{oc:Value}{od an:Option Addr}{osl:Array (Option Value)}{kV doc pm cdv ct:Value}(l:K.lookup f=some ⟨oc,od,.func (PySem.W.fnOf x qual (qbL st) (qbb st) (qae st) .none kV doc pm an cdv ct),osl⟩)
  (c:PySem.W.codeIn K cdv qual=true) (k:PySem.W.keepIn K (.ref f)=true):Fun K x qual st f (PySem.W.fnOf x qual (qbL st) (qbb st) (qae st) .none kV doc pm an cdv ct):=⟨⟨oc,od,kV,doc,pm,an,cdv,ct,osl,rfl,l,c⟩,k⟩
end
theorem qhA {A:Around}{k:Nat}(hr:Room k A):A.units + 1 < cLine:=Nat.lt_of_le_of_lt (Nat.add_le_add_left (by decide:1≤64) _) hr.units
section
variable {X:Cx}
theorem pv (i:Nat){x:Str}{pos:Pos}(hN:X.N[i]?=some x:=by rfl)(hv:Vis X.env.scope x:=by first | exact Or.inl rfl | exact Or.inr (Or.inl rfl) | exact Or.inr (Or.inr rfl))(hd:(x == ("__debug__" : Str))=false:=by decide)
  (hcd:(x == ("__classdict__" : Str))=false:=by decide):PE X (.Name x pos) (tVar i):=qk0 hN hv hd hcd
end
theorem iteF {A B:Prop}(h:B):if false=true then A else B:=by
 rw [if_neg Bool.false_ne_true]
 exact h
theorem iteT {A B:Prop}(h:A):if true=true then A else B:=by
 rw [if_pos rfl]
 exact h
theorem ite2 {c A B:Prop}[Decidable c](h1:c->A)(h2:¬ c->B):if c then A else B:=by
 by_cases h:c
 ·rw [if_pos h]
  exact h1 h
 ·rw [if_neg h]
  exact h2 h
theorem qhz {c A B:Prop}[Decidable c](hc:c)(h:B):if (!decide c)=true then A else B:=by
 rw [decide_eq_true hc]
 exact iteF h
def Same (H H':Hp):Prop:=∀ b o,H b=some o->H' b=some o
theorem Same.refl (H:Hp):Same H H:=fun _ _ h=>h
theorem Same.trans {H H1 H2:Hp}(a:Same H H1)(b:Same H1 H2):Same H H2:=fun c o h=>b c o (a c o h)
theorem Same.seq {K:PySem.W.Frag}{H H':Hp}{a:Addr}{xs:List V}(e:Same H H')(h:SqL K H a xs):SqL K H' a xs:=by
 rcases h with (h | ⟨o,h⟩) | h
 ·exact .inl (.inl (e _ _ h))
 ·exact .inl (.inr ⟨o,e _ _ h⟩)
 ·exact .inr h
abbrev Bt (n:Nat)(i:Int):Prop:=Builtin.Int.intBits i≤n
theorem Bt.mono {m n:Nat}{i:Int}(h:Bt m i)(l:m≤n):Bt n i:=Nat.le_trans h l
theorem Bt.log {n:Nat}{i:Int}(h:Bt n i)(l:n≤8999):i.natAbs.log2 < 9000:=by
 have h1:=intBits_le_iff.mp h
 by_cases z:i.natAbs=0
 ·rw [z]; decide
 ·exact Nat.lt_of_lt_of_le ((Nat.log2_lt z).mpr h1) (by omega)
theorem Bt.neg {n:Nat}{i:Int}(h:Bt n i):Bt n (-i):=intBits_neg_le h
theorem Bt.of_le {n:Nat}{i j:Int}(h:Bt n j)(l:i.natAbs≤j.natAbs):Bt n i:=intBits_le_of_natAbs l h
theorem Bt.of_lt {n:Nat}{i:Int}(l:i.natAbs < 2 ^ n):Bt n i:=intBits_le_iff.mpr l
section
variable {X:Cx}
def CMulB (i j:Int):Prop:=Bt 20000 i/\Bt 20000 j
theorem qcG:OpR X (binaryOp .Mult) (rI CMulB fun i j => .int (i * j)):=opI fun _ _ _ _ _ _ _ hc q=>mul_int q (IntMulOk.of_le hc.1 hc.2 (by decide))
def CDivB (i j:Int):Prop:=0 < j/\Bt 8000 j
theorem qaN:OpR X (binaryOp .FloorDiv) (rI CDivB fun i j => .int (i / j)):=opI fun i j _ _ _ _ _ hc q=>by
 refine floordiv_int (by have:=hc.1; omega) ?_ (.inl (PyProof.noPylong_of_log2 (hc.2.log (by decide))))
 rw [Int.fdiv_eq_ediv_of_nonneg i (Int.le_of_lt hc.1)]
 exact q
def qnQ (i j:Int):Prop:=j≠0/\Bt 8000 j
theorem qe4:OpR X (binaryOp .FloorDiv) (rI qnQ fun i j => .int (i.fdiv j)):=opI fun i j _ _ _ _ _ hc q =>
 floordiv_int hc.1 q (.inl (PyProof.noPylong_of_log2 (hc.2.log (by decide))))
theorem qaa {α:Type}{xs:List α}{d:α}{j:Nat}(h:j < xs.length):xs.getD j d=xs[j]:=by
 rw [List.getD_eq_getElem?_getD,List.getElem?_eq_getElem h]; rfl
end
section
variable {X:Cx}
example (K:PySem.W.Frag):PySem.W.kitOne K (.type "int") (.type "bool")=some false:=by rfl
example (K:PySem.W.Frag):PySem.W.kitOne K (.type "tuple") (.type "tuple")=some true:=by rfl
example (K:PySem.W.Frag):PySem.W.kitOne K (.type "int") (.type "int")=some true:=by rfl
def qm1:V->List V->Hp->VK->Prop:=fun x vs H Q=>∃ l xs y,x = .ref l/\vs=[y]/\H l=some (.lst xs)/\xs.all qc1=true/\qc1 y=true/\Q (.int (xs.countP fun z=>eqV z y:Nat)) H
theorem qdY {x:V}:∀ {xs:List V} {us:List Value},Vals xs us->xs.all qc1=true->us.countP (eqU x)=xs.countP fun z=>eqV z x
 | _,_,.nil,_=>rfl
 | y :: xs,u :: us,.cons r t,f=>by
  have f':qc1 y=true/\xs.all qc1=true:=by simpa using f
  rw [List.countP_cons,List.countP_cons,qdY t f'.2,qg5 r f'.1]
theorem qd4:∀ {xs:List V} {us:List Value} {u:Value},Vals xs us->u∈us->∃ y∈xs,RelV y u
 | _,_,_,.nil,h=>by simp at h
 | y :: xs,w :: us,u,.cons r t,h=>by
  rcases List.mem_cons.mp h with rfl | h
  ·exact ⟨y,by simp,r⟩
  ·obtain ⟨z,hz,rz⟩:=qd4 t h
   exact ⟨z,by simp [hz],rz⟩
theorem qkm:MtR X "list.count" qm1:=by
 intro pins s σ H x vs v us Q I rx rv h
 obtain ⟨l,xs,y,rfl,rfl,hH,fx,fy,q⟩:=h
 cases rx
 obtain ⟨u,rfl,ru⟩:=rv.one
 obtain ⟨z,its,n,r,hl,e⟩:=I.lstM hH
 refine call_meets F.slot_list_count ⟨_,e,rfl⟩ F.entry_list_count (F.args_list_count_2 _ _) (SeqAt.list_countAt l its.toArray n none #[] u (eqU y)) ⟨e,fun w hw=>?_,?_⟩
 ·obtain ⟨y',hy,ry⟩:=qd4 r (by simpa using hw)
  have fy':qc1 y'=true:=List.all_eq_true.mp fx _ hy
  rw [qg5 ry fy']
  exact qle ry ru fy' fy
 ·refine ⟨.int ((xs.countP fun z=>eqV z y:Nat):Int),H,I.tok _,⟨s.toks,?_⟩,q⟩
  rw [show (its.toArray.toList)=its from rfl,qdY r fx]
end
structure Cal (P:Program)(w:World)(K:PySem.W.Frag)(mg:Str->Option Value)(base:Heap)(x:Str)(ps:List Str)(k:Nat)(sp:Sp):Prop where
 ex:∃ f fd,FnOk P w K mg base CX0 k f fd ps sp/\mg x=some (.ref f)/\PySem.W.keepIn K (.ref f)=true/\Binds K fd ps []
structure FunAt (K:PySem.W.Frag)(mg:Str->Option Value)(x:Str)(ps:List Str)(st:Stmt):Prop where
 ex:∃ f fd,Fun K x x st f fd/\mg x=some (.ref f)/\Binds K fd ps []
theorem Cal.mono {P:Program}{w:World}{K:PySem.W.Frag}{mg:Str->Option Value}{base:Heap}{x:Str}{ps:List Str}{j k:Nat}{sp:Sp}(c:Cal P w K mg base x ps j sp)(h:j≤k):Cal P w K mg base x ps k sp :=
 let ⟨f,fd,F,r⟩:=c.ex
 ⟨f,fd,F.mono h,r⟩
theorem FunAt.cal {P:Program}{w:World}{K:PySem.W.Frag}{mg:Str->Option Value}{base:Heap}{x:Str}{ps N:List Str}{st:Stmt}{k:Nat}{sp:Sp}(F:FunAt K mg x ps st)(S:qai N ps (qae st))(len:∀ vs H Q E,sp vs H Q E->vs.length=ps.length)
  (hbody:∀ (f:Addr) (cdv:Value) (A:Around) (outer:List Env) (s:Shared) (H:Hp) (vs:List V) (Q:VK) (E:XK),Room k (A.deeper (envOfC x (qae st) s.heap.objs.size f cdv))->sp vs H Q E ->
    ∃ t,PSs (cxOf CX0 P w K mg base N x (qae st) f cdv A outer s H E).nox (qbb st) t/\t { nx:=fun _ H'=>Q .non H',rt:=Q } (start N vs) H):Cal P w K mg base x ps (k + 1) sp:=by
 obtain ⟨f,fd,F1,m,b⟩:=F.ex
 exact ⟨f,fd,F1.ok S len (hbody f),m,F1.kp,b⟩
section
variable {X:Cx}{x:Str}{ps:List Str}{k:Nat}{sp:Sp}{e:Expr}{es:List Expr}{t:TA}{p pos:Pos}
theorem cc (c:Cal X.prog X.w X.K X.mg X.base x ps k sp)(hr:Room k X.A)(ha:PA X (e :: es) t)(hg:Gl X x:=by rfl)(hd:(x == ("__debug__" : Str))=false:=by decide)
  (hs:starEach (e :: es) X.env=(false,eval e X.env) :: starEach es X.env:=by rfl) (hp:(backTo pos (starEach es X.env)).any (·.1)=false:=by rfl):PE X (.Call (.Name x p) (e :: es) [] pos) (qlt sp [] E0 t):=by
 obtain ⟨f,fd,F,m,kp,b⟩:=c.ex
 exact qiu F hr hg m kp b .nil pass0 ha hd hs hp
end
theorem funAt_mk {K:PySem.W.Frag}{h:Heap}{mg:Str->Option Value}{x:Str}{ps:List Str}{st:Stmt}{f:Addr}{oc:Value}{od an:Option Addr}{osl:Array (Option Value)}{kV doc pm cdv ct:Value}(X:K.In h)(G:h.Ns mainGlobals mg)
  (hb:∀ (kV doc pm:Value) (an:Option Addr) (cdv ct:Value) (us:List Value),us.length=ps.length->bindArgs (PySem.W.fnOf x x (qbL st) (qbb st) (qae st) .none kV doc pm an cdv ct) ⟨us,[]⟩=pure (ps.zip us))
  (a:PySem.W.nsIn K mainGlobals x=some (some (.ref f))) (l:K.lookup f=some ⟨oc,od,.func (PySem.W.fnOf x x (qbL st) (qbb st) (qae st) .none kV doc pm an cdv ct),osl⟩)
  (c:PySem.W.codeIn K cdv x=true) (k:PySem.W.keepIn K (.ref f)=true):FunAt K mg x ps st :=
 let F:=qld (st:=st) l c k
 ⟨f,_,F,PySem.W.mg_of X G a,F.binds hb⟩
theorem qfp:bootBuiltins "abs" = some (.builtin "abs"):=by decide +kernel
theorem qcy:bootBuiltins "len" = some (.builtin "len"):=by decide +kernel
theorem qa2:bootBuiltins "isinstance" = some (.builtin "isinstance"):=by decide +kernel
theorem qeC:bootBuiltins "tuple" = some (.type "tuple"):=by decide +kernel
theorem qmB:bootBuiltins "list" = some (.type "list"):=by decide +kernel
open MA
def ShAt (H:Hp)(v:V)(q:Rat):Prop:=∃ p,v = .ref p/\H p=some (.tup [.int q.num,.int (q.den:Int)])
def SB (n:Nat)(q:Rat):Prop:=Bt n q.num/\Bt n (q.den:Int)
theorem sN {H:Hp}{p:Addr}(h:H p=none)(o:HO):Same H (upd H p o):=fun b u q=>by rw [uE (qab q h)]; exact q
theorem ShAt.same {H H':Hp}{v:V}{q:Rat}(h:ShAt H v q)(s:Same H H'):ShAt H' v q:=let ⟨p,e,h⟩:=h; ⟨p,e,s _ _ h⟩
def penL (c:Addr)(a l:Int):List (Key × V):=[(.inr "cells",.ref c),(.inr "at",.int a),(.inr "left",.int l)]
structure qa9 (p:Addr)(H H':Hp):Prop where
 all:∀ b o,H b=some o->b≠p->H' b=some o
 pen:∀ c a l,H p=some (.dK (penL c a l))->∃ a' l',H' p=some (.dK (penL c a' l'))
theorem qa9.trans {p:Addr}{H H1 H2:Hp}(a:qa9 p H H1)(b:qa9 p H1 H2):qa9 p H H2 :=
 ⟨fun c o h n=>b.all c o (a.all c o h n) n,fun c x l h=>let ⟨x',l',h'⟩:=a.pen c x l h; b.pen c x' l' h'⟩
theorem Same.x {p:Addr}{H H':Hp}(a:Same H H'):qa9 p H H':=⟨fun b o h _=>a b o h,fun _ x l h=>⟨x,l,a _ _ h⟩⟩
theorem qa9.upd {p c:Addr}{H:Hp}{a l a' l':Int}(h:H p=some (.dK (penL c a l))):qa9 p H (upd H p (.dK (penL c a' l'))) :=
 ⟨fun b o e hb=>by rw [uE hb]; exact e,fun c' x y e=>by rw [h] at e; cases e; exact ⟨a',l',uS⟩⟩
theorem SB.mono {m n:Nat}{q:Rat}(h:SB m q)(l:m≤n):SB n q:=⟨h.1.mono l,h.2.mono l⟩
theorem Bt.ediv {n:Nat}{i c:Int}(h:Bt n i)(hc:0 < c):Bt n (i / c):=by
 rw [<- Int.fdiv_eq_ediv_of_nonneg i (Int.le_of_lt hc)]; exact intBits_fdiv_le h
theorem Bt.gl {n:Nat}{a b:Int}(h:Bt n a)(ha:a≠0):Bt n (gI a b) :=
 h.of_le (Nat.le_of_dvd (by omega) (Int.natAbs_dvd_natAbs.mpr (qb4 a b)))
theorem Bt.gr {n:Nat}{a b:Int}(h:Bt n b)(hb:b≠0):Bt n (gI a b):=by rw [qmo]; exact h.gl hb
theorem SB.divInt {n:Nat}{t b:Int}(ht:Bt n t)(hb:Bt n b)(h0:0 < b):SB n (Rat.divInt t b):=by
 have e:=qbu (t:=t) h0
 have g:=qaM (a:=t) (b:=b) (by omega)
 exact ⟨by rw [<- e.1]; exact ht.ediv g,by rw [<- e.2]; exact hb.ediv g⟩
theorem qdX (q:Rat):(q.den:Int)≠0:=by have:=den_pos q; omega
theorem qcO {env:Env}:∀ (ns:List (Str × NameKind)) (cs:List (Str × Addr)),(∀ x∈ns,x.2 = .free->∃ c,env.cells.lookup x.1=some c)->(∀ x c,cs.lookup x=some c->env.cells.lookup x=some c) ->
  ∃ cl,(forIn ns cs (fun (p:Str × NameKind) (r:List (Str × Addr))=>if (p.2 == NameKind.free)=true then (do let c <- cellOf env p.1; pure (ForInStep.yield ((p.1,c) :: r))) else pure (ForInStep.yield r)):Sem (List (Str × Addr)))=pure cl /\
   (∀ x c,cl.lookup x=some c->env.cells.lookup x=some c)/\(∀ x,(x,NameKind.free)∈ns->∃ c,cl.lookup x=some c)/\(∀ x c,cs.lookup x=some c->∃ c',cl.lookup x=some c')
 | [],cs,_,hcs=>⟨cs,rfl,hcs,fun _ h=>(by simp at h),fun x c h=>⟨c,h⟩⟩
 | (n,k) :: r,cs,hall,hcs=>by
  by_cases hk:k = .free
  ·subst hk
   obtain ⟨c,hc⟩:=hall (n,.free) (by simp) rfl
   have hce:cellOf env n=pure c:=by unfold cellOf; rw [hc]
   have hcs':∀ x d,((n,c) :: cs).lookup x=some d->env.cells.lookup x=some d:=fun x d h=>by
    rw [List.lookup_cons] at h
    cases e:x == n with
    | true=>rw [e] at h; cases h; rw [eq_of_beq e]; exact hc
    | false=>rw [e] at h; exact hcs x d h
   obtain ⟨cl,e,h1,h2,h3⟩:=qcO r ((n,c) :: cs) (fun x hx=>hall x (by simp [hx])) hcs'
   refine ⟨cl,?_,h1,fun x hx=>?_,fun x d hd=>?_⟩
   ·rw [List.forIn_cons,<- e]
    show (cellOf env n >>= _) >>= _=_
    rw [hce]
    rfl
   ·rcases List.mem_cons.mp hx with z | z
    ·cases z
     exact h3 n c (by simp)
    ·exact h2 x z
   ·cases q:x == n with
    | true=>exact h3 x c (by rw [List.lookup_cons,q])
    | false=>exact h3 x d (by rw [List.lookup_cons,q]; exact hd)
  ·obtain ⟨cl,e,h1,h2,h3⟩:=qcO r cs (fun x hx=>hall x (by simp [hx])) hcs
   refine ⟨cl,?_,h1,fun x hx=>?_,h3⟩
   ·rw [List.forIn_cons,<- e]
    have:(k == NameKind.free)=false:=by simpa using hk
    simp only [this,Bool.false_eq_true,if_false]
    rfl
   ·rcases List.mem_cons.mp hx with z | z
    ·cases z
     exact absurd rfl hk
    ·exact h2 x z
theorem qcN {env:Env}{scope:Scope}(hall:∀ x∈scope.names,x.2 = .free->∃ c,env.cells.lookup x.1=some c) :
  ∃ cl,closureFor scope env=pure cl/\(∀ x c,cl.lookup x=some c->env.cells.lookup x=some c)/\(∀ x,(x,NameKind.free)∈scope.names->∃ c,cl.lookup x=some c):=by
 obtain ⟨cl,e,h1,h2,_⟩:=qcO (env:=env) scope.names [] hall (fun x c h=>by simp at h)
 refine ⟨cl,?_,h1,h2⟩
 simp only [closureFor]
 rw [e]
 rfl
def qat (X:Cx)(scope:Scope)(N:List Str)(cl:List (Str × Addr))(C:Addr)(s:Shared)(H:Hp)(ex:List Addr):Cx :=
 { X with N:=N,s₀:=s,H₀:=H,env:=compEnvC scope cl C X.env,outer:=X.stack,stack:=X.stack,ex:=ex,fn:=fun _=>false,pn:=[] }
def PTs (X:Cx)(ifs:List Expr)(t:TT):Prop :=
 ∀ (pins:List (Addr × Obj)) (s:Shared) (σ:St) (H:Hp) (Q:Bool->Hp->Prop),Inv X pins σ H s->t σ H Q ->
  wpAny (model X.prog X.w) X.A (forIn ifs true fun c r=>if r=true then do let ok <- isTrue c X.env (eval c X.env); pure (ForInStep.yield ok) else pure (ForInStep.yield r)) (TP X pins σ Q) X.xe s
def tTT:TT:=fun _ H Q=>Q true H
theorem qbi {X:Cx}:PTs X [] tTT:=fun pins s σ H Q I h=>wpAny_tests_nil ⟨H,I,h⟩
theorem qlJ {X:Cx}{c:Expr}{t:TT}(h:PT X c t):PTs X [c] t:=fun pins s σ H Q I hw=>wpAny_tests_one (h pins s σ H Q I hw)
def qmP (σ0:St->St)(wi:TI)(g:TG)(tc:TT)(te:TE):TE:=fun σ H Q=>wi σ H fun J H1=>∀ p,H1 p=none->∃ W:Nat->Nat->List V->St->Hp->Prop,(∃ m,W 0 m [] (σ0 σ) (upd H1 p (.lst [])))/\∀ i m ys σ' H',W i m ys σ' H' ->
 (J.stop i H'/\Q (.ref p) H')\/(J.go i H'/\∀ x H2,J.yld i H' x H2->g x σ' H2 fun σ2 H3=>tc σ2 H3 fun b H4=>if b=true then te σ2 H4 fun v H5=>ys.length < sizeLine/\H5 p=some (.lst ys)/\(∃ m',m' < m/\W (i + 1) m' (ys ++ [v]) σ2 (upd H5 p (.lst (ys ++ [v]))))
  else ∃ m',m' < m/\W (i + 1) m' ys σ2 H4)
def Sees (X:Cx)(scope:Scope)(N:List Str)(σ0:St->St):Prop :=
 ∀ σ:St,(σ0 σ).length=N.length/\∀ (i:Nat) (x:Str) (v:V),N[i]?=some x->(σ0 σ)[i]?=some (some v)->scope.names.lookup x=some .free/\∃ j:Nat,X.N[j]?=some x/\σ[j]?=some (some v)
theorem qaK {env:Env}{names:List (Str × NameKind)}{x:Str}:∀ {k},(names.map fun (n,k)=>if (k == NameKind.free && env.scope.kind == .function && env.kindOf n == some .cell)=true then (n,NameKind.cell) else (n,k)).lookup x=some k->(x,k)∈names\/(k = .cell/\(x,NameKind.free)∈names):=by
 induction names with
 | nil=>intro k h; simp at h
 | cons a r ih =>
  intro k h
  obtain ⟨n,k0⟩:=a
  rw [List.map_cons] at h
  dsimp only at h
  by_cases hc:(k0 == NameKind.free && env.scope.kind == .function && env.kindOf n == some .cell)=true
  ·rw [if_pos hc] at h
   have hk0:k0 = .free:=by
    simp only [Bool.and_eq_true,beq_iff_eq] at hc
    exact hc.1.1
   rw [List.lookup_cons] at h
   cases e:x == n with
   | true =>
    rw [e] at h
    cases h
    exact .inr ⟨rfl,by rw [eq_of_beq e,hk0]; simp⟩
   | false =>
    rw [e] at h
    rcases ih h with z | ⟨z1,z2⟩
    ·exact .inl (List.mem_cons_of_mem _ z)
    ·exact .inr ⟨z1,List.mem_cons_of_mem _ z2⟩
  ·rw [if_neg hc] at h
   rw [List.lookup_cons] at h
   cases e:x == n with
   | true =>
    rw [e] at h
    cases h
    exact .inl (by rw [eq_of_beq e]; simp)
   | false =>
    rw [e] at h
    rcases ih h with z | ⟨z1,z2⟩
    ·exact .inl (List.mem_cons_of_mem _ z)
    ·exact .inr ⟨z1,List.mem_cons_of_mem _ z2⟩
theorem qaU {env:Env}{x:Str}:∀ {names:List (Str × NameKind)},names.lookup x=some .free ->
  (names.map fun (n,k)=>if (k == NameKind.free && env.scope.kind == .function && env.kindOf n == some .cell)=true then (n,NameKind.cell) else (n,k)).lookup x=some .cell\/(names.map fun (n,k)=>if (k == NameKind.free && env.scope.kind == .function && env.kindOf n == some .cell)=true then (n,NameKind.cell) else (n,k)).lookup x=some .free
 | [],h=>by simp at h
 | (n,k0) :: r,h=>by
  rw [List.lookup_cons] at h
  rw [List.map_cons]
  dsimp only
  cases e:x == n with
  | true =>
   rw [e] at h
   cases h
   by_cases hc:(NameKind.free == NameKind.free && env.scope.kind == .function && env.kindOf n == some .cell)=true
   ·rw [if_pos hc]; left; rw [List.lookup_cons,e]
   ·rw [if_neg hc]; right; rw [List.lookup_cons,e]
  | false =>
   rw [e] at h
   have ih:=qaU (env:=env) h
   by_cases hc:(k0 == NameKind.free && env.scope.kind == .function && env.kindOf n == some .cell)=true
   ·rw [if_pos hc,List.lookup_cons,e]; exact ih
   ·rw [if_neg hc,List.lookup_cons,e]; exact ih
theorem qbs {x:Str}{k:NameKind}:∀ {names:List (Str × NameKind)},names.lookup x=some k->(x,k)∈names:=fun h=>PySem.mem_of_lookup h
theorem qcF {X:Cx}{elt tg iter:Expr}{ifs:List Expr}{scope:Scope}{pos:Pos}{wi:TI}{g:TG}{tc:TT}{te:TE}{N:List Str}{σ0:St->St}
  (hc:X.calm=true) (hxe:∀ e s,X.xe e s->False) (hcell:∀ y∈scope.names,y.2 ≠ .cell) (hkind:scope.kind = .function) (hnames:∀ y∈scope.names,y.2 = .local->scope.names.lookup y.1=some .local)
  (hfr:∀ y∈scope.names,y.2 = .free->X.env.kindOf y.1=some .cell\/X.env.kindOf y.1=some .free) (hσ:Sees X scope N σ0)
  (hi:PI X tg iter wi)
  (hg:∀ cl C s H ex,PG (qat X scope N cl C s H ex) tg g) (ht:∀ cl C s H ex,PTs (qat X scope N cl C s H ex) ifs tc) (he:∀ cl C s H ex,PE (qat X scope N cl C s H ex) elt te)
  (hs:∀ x,foldedSetIterable iter X.env x=pure x:=by intro _; rfl):PE X (.ListComp elt [⟨tg,iter,ifs,0⟩] scope pos) (qmP σ0 wi g tc te):=by
 intro pins s σ H Q I h
 obtain ⟨cl,hclos,hcl1,hcl2⟩:=qcN (env:=X.env) (scope:=scope) fun y hy hf=>I.ok.has y.1 (hfr y hy hf)
 rw [eval_ListComp]
 refine wpAny_comprehension_free (use:=none) rfl hs hclos hkind hnames (thn (hi pins s σ H _ I h) fun v s1 h1=>thn h1 fun itv s2 h2=>?_)
 obtain ⟨it,fp,tn,J,H2,e,I2,T,st2,f2,h3⟩:=h2
 subst e
 have hpn:H2 s2.heap.objs.size=none:=I2.hok.fresh (Nat.le_refl _)
 obtain ⟨W,⟨m0,w0⟩,turn⟩:=h3 _ hpn
 refine wpAny_newObj_type ?_
 generalize hp:s2.heap.objs.size=p at *
 have I3:Inv X pins σ (upd H2 p (.lst [])) { s2 with heap:=s2.heap.push { cls := .type "list",dict:=none,data := .seq ([]:List Value).toArray } }:=by
  refine I2.laid (a:=p) (o := .lst []) (t':=s2.toks) (fun b u q=>Heap.get?_push_of_some _ q) (Nat.le_of_eq hp) ⟨Nat.zero_le _,[],0,.nil,?_⟩
  rw [<- hp]
  exact Heap.get?_push_size _ rfl
 have hf3:∀ b∈fp,FpOk X pins (upd H2 p (.lst [])) b:=fun b hb=>by
  obtain ⟨o,ho,_⟩:=T.obj _ _ st2 b hb
  have:b≠p:=by rw [<- hp]; exact Nat.ne_of_lt (Heap.lt_size ho)
  exact ⟨by rw [uE this]; exact (f2 b hb).1,(f2 b hb).2⟩
 generalize hs3:({ s2 with heap:=s2.heap.push { cls := .type "list",dict:=none,data := .seq ([]:List Value).toArray } }:Shared)=s3 at *
 have st3:tn 0 s3.heap:=by rw [<- hs3]; exact T.keep _ _ _ st2 fun b _ o e=>Heap.get?_push_of_some _ e
 generalize hH3:upd H2 p (.lst [])=H3 at *
 refine wpAny_newFunctionEnv hcell (by intro y hy; simp at hy) (fun h1 hns1 hsb1=>?_) hkind
 generalize hC:s3.heap.objs.size=C at *
 have keep:∀ b u,s3.heap.get? b=some u->h1.get? b=some u:=fun b u q =>
  hsb1.extBut b u (by rw [<- hC]; exact Nat.ne_of_lt (Heap.lt_size q)) (Heap.get?_push_of_some _ q)
 have fpC:∀ b∈fp,b≠C:=fun b hb=>by
  obtain ⟨o,ho,_⟩:=T.obj _ _ st3 b hb
  rw [<- hC]; exact Nat.ne_of_lt (Heap.lt_size ho)
 have hCn:H3 C=none:=I3.hok.fresh (Nat.le_of_eq hC)
 have ok':(qat X scope N cl C s3 H3 fp).Ok:=by
  refine ⟨I3.mod,hkind,I3.ok.glob,I3.ok.blt,Nat.le_of_eq hC,fun x y c a b=>I3.ok.inj x y c (hcl1 x c a) (hcl1 y c b),fun x hx=>?_,fun _ _ z=>Bool.noConfusion (show false=true from z),I3.ok.hd,I3.ok.frames,.inl rfl,fun b hb=>⟨fpC b hb,fun x c q=>(hf3 b hb).2.2.2.2.1 x c (hcl1 x c q)⟩,
   I3.bs,Nat.le_trans I3.ok.bsz I3.sz,fun b o e hb=>?_,fun b hb z=>?_,I3.stack,I3.stkFree⟩
  ·have hx':(relabel scope X.env).names.lookup x=some .cell\/(relabel scope X.env).names.lookup x=some .free:=hx
   rcases hx' with z | z
   ·rcases qaK z with y | ⟨_,y⟩
    ·exact absurd rfl (hcell _ y)
    ·exact hcl2 x y
   ·rcases qaK z with y | ⟨y,_⟩
    ·exact hcl2 x y
    ·cases y
  ·rcases (hf3 b hb).2.2.2.1 with z | z
   ·exact I3.ok.noex b o e z
   ·exact absurd (Nat.lt_of_lt_of_le (Heap.lt_size e) (Nat.le_trans I3.ok.bsz z)) (Nat.lt_irrefl _)
  ·rcases List.mem_cons.mp (I3.stkSub b z) with q | q
   ·exact (hf3 b hb).2.1 q
   ·exact (hf3 b hb).2.2.1 q
 have J0:Inv (qat X scope N cl C s3 H3 fp) [] (σ0 σ) H3 { s3 with heap:=h1,toks:=s3.toks + ([]:List (Str × Value)).length }:=by
  refine ⟨ok',rfl,I3.bare,Un.kept keep,⟨_,hns1,fun i x v a b c=>?_⟩,fun x c q=>?_,hCn,fun x c q=>I3.freeC x c (hcl1 x c q),fun q hq=>absurd (show q∈([]:List (Addr × Obj)) from hq) (by simp),I3.hok.kept keep,(hσ σ).1⟩
  ·obtain ⟨hf,j,hj,hv⟩:=(hσ σ).2 i x v a b
   have hm:=qbs hf
   obtain ⟨m,hn,hl⟩:=id I3.loc
   have hk:=hfr _ hm rfl
   have hvis:Vis X.env.scope x:=hk.elim (fun z => .inr (.inl z)) fun z => .inr (.inr z)
   obtain ⟨u,r,lk⟩:=hl j x v hj hv hvis
   refine ⟨u,r,.inr ⟨qaU hf,?_⟩⟩
   obtain ⟨c',hc'⟩:=hcl2 x hm
   refine ⟨c',hc',?_⟩
   have hx:=hcl1 x c' hc'
   rcases lk with ⟨kl,_⟩ | ⟨_,c2,e2,o2,ho2,hd2⟩
   ·rcases hk with z | z <;> rw [kl] at z <;> cases z
   ·rw [hx] at e2
    cases e2
    exact ⟨o2,keep _ _ ho2,hd2⟩
  ·obtain ⟨v,o,ho,hd⟩:=I3.cell x c (hcl1 x c q)
   exact ⟨v,o,keep _ _ ho,hd⟩
 have st4:tn 0 h1:=T.keep _ _ _ st3 fun b _ o e=>keep b o e
 have stat:∀ {H':Hp},(∀ b∈fp,H' b=none)->∀ b∈fp,FpOk (qat X scope N cl C s3 H3 fp) [] H' b:=fun hn b hb =>
  ⟨hn b hb,fpC b hb,fun z=>ok'.exfs b hb z,.inl hb,fun x c q=>(hf3 b hb).2.2.2.2.1 x c (hcl1 x c q),fun q hq=>absurd (show q∈([]:List (Addr × Obj)) from hq) (by simp)⟩
 have back:∀ {σ':St} {H':Hp} {s':Shared} {pl:List (Addr × Obj)},Inv (qat X scope N cl C s3 H3 fp) pl σ' H' s'->∀ h',Heap.SameBut C s'.heap h'->Inv X pins σ H' { s' with heap:=h' }:=fun {σ' H' s' pl} J h' hsb=>by
  have I5:Inv X pins σ H' s':=Inv.call' (ch:=fp) I3 J.os J.base J.hok J.bare fun b hb=>⟨(hf3 b hb).2.2.2.1,(hf3 b hb).2.1,(hf3 b hb).2.2.2.2.1,(hf3 b hb).2.2.2.2.2⟩
  refine Inv.turned (it:=C) (t':=s'.toks) I5 (fun b o hb e=>hsb.extBut b o hb e) J.free (fun z=>?_) (.inr ?_) (fun x c q z=>?_) fun q hq z=>?_
  ·exact absurd (show X.env.locals < C by rw [<- hC]; exact I3.lt) (by rw [z]; exact Nat.lt_irrefl _)
  ·rw [<- hC]; exact I3.sz
  ·obtain ⟨v,o,ho,_⟩:=I3.cell x c q
   have:=Heap.lt_size ho
   rw [z,hC] at this
   exact Nat.lt_irrefl _ this
  ·have:=Heap.lt_size (I3.pin q hq).1
   rw [z,hC] at this
   exact Nat.lt_irrefl _ this
 have loop:codeAny (model X.prog X.w) X.A (.compLoop (.ListComp elt [⟨tg,iter,ifs,0⟩] scope pos) 0 (.ref it) (.ref p) (compEnvC scope cl C X.env)) (compPost (model X.prog X.w) X.A X.xe none (EP X pins σ Q) (.ref p) C) { s3 with heap:=h1,toks:=s3.toks + ([]:List (Str × Value)).length }:=by
  refine codeAny_loop rfl (fun n s'=>∃ i ys σ' H',Inv (qat X scope N cl C s3 H3 fp) [] σ' H' s'/\tn i s'.heap/\(∀ b∈fp,H' b=none)/\W i n ys σ' H') (fun n s' hI=>?_) m0 ⟨0,[],σ0 σ,H3,J0,st4,fun b hb=>(hf3 b hb).1,w0⟩
  obtain ⟨i,ys,σ',H',J',st',fr',w'⟩:=hI
  show wpAny _ X.A ((compTurn (.ListComp elt [⟨tg,iter,ifs,0⟩] scope pos) 0 (.ref it) (.ref p) (compEnvC scope cl C X.env)).onRaise (fun x=>do noteFrame x (compEnvC scope cl C X.env); theTreesLotGoes x)) _ _ s'
  refine wpAny_noted ?_
  rw [compTurn_list]
  rcases turn i n ys σ' H' w' with ⟨stop,q⟩ | ⟨go,step⟩
  ·refine wpAny_bind (wpAny_standAt (wpAny_bind (wpAny_mono (T.done (qat X scope N cl C s3 H3 fp) rfl rfl rfl hc i [] s' σ' H' X.xe J' (stat fr') st' stop) (fun r s4 h4=>?_) fun _ _ x=>(hxe _ _ x).elim)))
   obtain ⟨hr,I4⟩:=h4
   subst hr
   refine wpAny_pure ?_
   obtain ⟨m,hn,_⟩:=id I4.loc
   exact ⟨m,hn,fun h' hsb=>⟨.ref p,H',back I4 h' hsb,rfl,q⟩⟩
  ·refine wpAny_bind (wpAny_standAt (wpAny_bind (wpAny_mono (T.item (qat X scope N cl C s3 H3 fp) rfl rfl rfl hc i [] s' σ' H' X.xe J' (stat fr') st' go) (fun r s4 h4=>?_) fun _ _ x=>(hxe _ _ x).elim)))
   obtain ⟨u,hr,h4⟩:=h4
   subst hr
   refine wpAny_bind (wpAny_mono h4 (fun _ s5 h5=>?_) fun _ _ x=>(hxe _ _ x).elim)
   obtain ⟨x,H5,I5,r5,y5,st5,fr5⟩:=h5
   have I5':=I5.pinned (stat fr5) (T.obj _ _ st5)
   refine wpAny_bind (wpAny_mono (hg cl C s3 H3 fp _ s5 σ' H5 x u _ I5' r5 (step x H5 y5)) (fun _ s6 h6=>?_) fun _ _ x=>(hxe _ _ x).elim)
   obtain ⟨σ6,H6,I6,q6⟩:=h6
   have again:∀ {σ7:St} {H7:Hp} {s7:Shared} {ys7:List V},Inv (qat X scope N cl C s3 H3 fp) ([] ++ qdQ fp s5.heap) σ7 H7 s7->(∃ m',m' < n/\W (i + 1) m' ys7 σ7 H7) ->
     ∃ m,m < n/\∃ i ys σ' H',Inv (qat X scope N cl C s3 H3 fp) [] σ' H' s7/\tn i s7.heap/\(∀ b∈fp,H' b=none)/\W i m ys σ' H':=fun {σ7 H7 s7 ys7} I7 n7=>by
    obtain ⟨m',hm,w7⟩:=n7
    refine ⟨m',hm,i + 1,ys7,σ7,H7,I7.unpinned,T.keep _ _ _ st5 fun b hb o e=>(I7.pin (b,o) (List.mem_append_right _ (List.mem_append_right _ (qbg hb e)))).1,fun b hb=>?_,w7⟩
    obtain ⟨o,e,d⟩:=T.obj _ _ st5 b hb
    exact (I7.pin (b,o) (List.mem_append_right _ (List.mem_append_right _ (qbg hb e)))).2.1
   refine wpAny_bind (wpAny_mono (ht cl C s3 H3 fp _ s6 σ6 H6 _ I6 q6) (fun ok s7 h7=>?_) fun _ _ x=>(hxe _ _ x).elim)
   obtain ⟨H7,I7,q7⟩:=h7
   cases ok with
   | false =>
    rw [if_neg Bool.false_ne_true] at q7
    exact wpAny_pure ⟨rfl,again I7 q7⟩
   | true =>
    rw [if_pos rfl] at q7
    refine wpAny_bind (wpAny_bind (wpAny_mono (he cl C s3 H3 fp _ s7 σ6 H7 _ I7 q7) (fun y s8 h8=>?_) fun _ _ x=>(hxe _ _ x).elim))
    obtain ⟨v,H8,I8,r8,hz,hH8,w8⟩:=h8
    refine wpAny_bind (wpAny_mono (qcl (X:=qat X scope N cl C s3 H3 fp) _ s8 σ6 H8 (.ref p) [v] (.ref p) [y] (fun x H9=>x = .non/\H9=upd H8 p (.lst (ys ++ [v]))) I8 rfl (.cons r8 .nil) ⟨p,ys,v,rfl,rfl,hH8,hz,rfl,rfl⟩) (fun _ s9 h9=>?_) fun _ _ x=>(hxe _ _ x).elim)
    obtain ⟨z,H9,I9,_,_,e9⟩:=h9
    subst e9
    exact wpAny_pure (wpAny_pure ⟨rfl,again I9 w8⟩)
 exact codeAny_compStart_list loop (T.self X.A 0 _ _ _ st4 loop)
end L2
namespace L2
open MA
end L2
namespace My
open PySem L2 MA
section
variable {P:Program}{w:World}{K:PySem.W.Frag}{mg:Str->Option Value}{base:Heap}
structure Txt (mg:Str->Option Value):Prop where
 z_abs:mg "abs" = none
 z_len:mg "len" = none
 z_isinstance:mg "isinstance" = none
 z_range:mg "range" = none
 z_int:mg "int" = none
 z_bool:mg "bool" = none
 z_tuple:mg "tuple" = none
 z_list:mg "list" = none
 z_all:mg "all" = none
def qbF:Sp:=fun vs H Q _=>∃ a b:Int,vs=[.int a,.int b]/\Q (.int (gI a b)) H
def qh9:Sp:=fun vs H Q _=>∃ t b:Int,vs=[.int t,.int b]/\b≠0/\Bt 8000 b/\∀ v H',Same H H'->ShAt H' v (Rat.divInt t b)->Q v H'
theorem qdV {c t:Int}(hc:c ∣ t):t.fdiv c=t / c:=by
 rw [Int.fdiv_eq_ediv_of_dvd hc]
theorem qig {t b:Int}(hb:b < 0):t.fdiv (-(gI t b))=(Rat.divInt t b).num/\b.fdiv (-(gI t b))=((Rat.divInt t b).den:Int):=by
 have e:=qbu (t:=-t) (b:=-b) (by omega)
 have g:gI (-t) (-b)=gI t b:=by unfold gI; rw [Int.neg_gcd,Int.gcd_neg]
 rw [g,Rat.neg_divInt_neg] at e
 rw [qdV (Int.neg_dvd.mpr (qb4 t b)),qdV (Int.neg_dvd.mpr (qbI t b)),Int.ediv_neg,Int.ediv_neg]
 rw [Int.neg_ediv_of_dvd (qb4 t b),Int.neg_ediv_of_dvd (qbI t b)] at e
 exact e
def sp2 (f:Rat->Rat->Rat)(pre:Rat->Rat->Prop):Sp:=fun vs H Q _=>∃ a b q r,vs=[a,b]/\ShAt H a q/\ShAt H b r/\SB 3000 q/\SB 3000 r/\pre q r/\∀ v H',Same H H'->ShAt H' v (f q r)->Q v H'
abbrev qkS:Sp:=sp2 (fun q r=>q + r) (fun _ _=>True)
abbrev qh8:Sp:=sp2 (fun q r=>q * r) (fun _ _=>True)
def Shs (H:Hp):List V->List Rat->Prop:=Paired (ShAt H)
theorem Shs.same {H H':Hp}(s:Same H H'):∀ {xs:List V} {qs:List Rat},Shs H xs qs->Shs H' xs qs
 | _,_,.nil => .nil
 | _,_,.cons r t => .cons (r.same s) (Shs.same s t)
def qh7:Sp:=fun vs H Q _=>∃ l xs qs,vs=[.ref l]/\H l=some (.lst xs)/\Shs H xs qs/\(∀ q∈qs,SB 3000 q)/\(∀ i,SB 3000 ((qs.take i).foldl (· + ·) 0))/\∀ v H',Same H H'->ShAt H' v (qs.foldl (· + ·) 0)->Q v H'
theorem Paired.at' {α β:Type}{R:α->β->Prop}:∀ {xs:List α} {ys:List β} {i:Nat} {x:α},Paired R xs ys->xs[i]?=some x->∃ y,ys[i]?=some y/\R x y
 | _,_,_,_,.nil,e=>by simp at e
 | _,_,0,_,.cons r _,e=>by simp at e; subst e; exact ⟨_,rfl,r⟩
 | _,_,i + 1,x,.cons _ t,e=>by
  obtain ⟨u,h1,h2⟩:=Paired.at' (i:=i) (x:=x) t (by simpa using e)
  exact ⟨u,by simpa using h1,h2⟩
theorem qjb {qs:List Rat}{i:Nat}{q:Rat}(h:qs[i]?=some q):(qs.take (i + 1)).foldl (· + ·) 0=(qs.take i).foldl (· + ·) 0 + q:=by
 rw [List.take_add_one,h,List.foldl_append]
 rfl
def Pen (H:Hp)(p:Addr)(n:Nat):Prop:=∃ (c:Addr) (ns:List Int) (a l:Int),H p=some (.dK (penL c a l))/\H c=some (.lst (ns.map V.int))/\0≤a/\a≤n
theorem Pen.mono {H:Hp}{p:Addr}{m n:Nat}(h:Pen H p m)(l:m≤n):Pen H p n:=let ⟨c,ns,a,x,h1,h2,h3,h4⟩:=h; ⟨c,ns,a,x,h1,h2,h3,by omega⟩
theorem Pen.same {H H':Hp}{p:Addr}{n:Nat}(h:Pen H p n)(s:Same H H'):Pen H' p n:=let ⟨c,ns,a,x,h1,h2,h3,h4⟩:=h; ⟨c,ns,a,x,s _ _ h1,s _ _ h2,h3,h4⟩
theorem Pen.dk {H:Hp}{p:Addr}{n:Nat}(h:Pen H p n):∃ kvs,H p=some (.dK kvs):=let ⟨c,ns,a,x,h1,_⟩:=h; ⟨_,h1⟩
theorem qir (c:Addr)(a l:Int):valV (penL c a l) (.inr "cells" : Key)=some (.ref c):=by rfl
theorem qm8 (c:Addr)(a l:Int):valV (penL c a l) (.inr "at" : Key)=some (.int a):=by rfl
theorem qj8 (c:Addr)(a l:Int):valV (penL c a l) (.inr "left" : Key)=some (.int l):=by rfl
theorem qm4 (c:Addr)(a l b:Int):putK (penL c a l) (.inr "at" : Key) (.int b)=penL c b l:=by rfl
theorem qj0 (c:Addr)(a l b:Int):putK (penL c a l) (.inr "left" : Key) (.int b)=penL c a b:=by rfl
theorem qi5 {H:Hp}{p c:Addr}{a l:Int}(h:H p=some (.dK (penL c a l))):DGet H p (.str "cells") (some (.ref c)):=by
 have:=DGet.k (k:=(.inr "cells" : Key)) h; rw [qir] at this; exact this
theorem qnx {H:Hp}{p c:Addr}{a l:Int}(h:H p=some (.dK (penL c a l))):DGet H p (.str "at") (some (.int a)):=by
 have:=DGet.k (k:=(.inr "at" : Key)) h; rw [qm8] at this; exact this
theorem qku {H:Hp}{p c:Addr}{a l:Int}(h:H p=some (.dK (penL c a l))):DGet H p (.str "left") (some (.int l)):=by
 have:=DGet.k (k:=(.inr "left" : Key)) h; rw [qj8] at this; exact this
theorem qmu {H:Hp}{p c:Addr}{a l b:Int}(h:H p=some (.dK (penL c a l))):DPut H p (.str "at") (.int b) (upd H p (.dK (penL c b l))):=by
 have:=DPut.k (k:=(.inr "at" : Key)) (v := .int b) h (by show 3 < sizeLine; decide); rw [qm4] at this; exact this
theorem qfm {H:Hp}{p c:Addr}{a l b:Int}(h:H p=some (.dK (penL c a l))):DPut H p (.str "left") (.int b) (upd H p (.dK (penL c a b))):=by
 have:=DPut.k (k:=(.inr "left" : Key)) (v := .int b) h (by show 3 < sizeLine; decide); rw [qj0] at this; exact this
theorem qmy {ns:List Int}(a:Int)(h:0 < ns.length):∃ z:Int,atI (ns.map V.int) (a % (((ns.map V.int).length:Nat):Int))=some (.int z):=by
 rw [List.length_map]
 have h0:=Int.emod_nonneg a (show ((ns.length:Nat):Int)≠0 by omega)
 have h1:=Int.emod_lt_of_pos a (show 0 < ((ns.length:Nat):Int) by omega)
 have hk:(a % (ns.length:Int)).toNat < ns.length:=by omega
 have ek:a % (ns.length:Int)=(((a % (ns.length:Int)).toNat:Nat):Int):=by omega
 refine ⟨ns[(a % (ns.length:Int)).toNat],?_⟩
 have q:atI (ns.map V.int) (((a % (ns.length:Int)).toNat:Nat):Int)=some (.int ns[(a % (ns.length:Int)).toNat]):=qdA (by rw [List.getElem?_map,List.getElem?_eq_getElem hk] <;> rfl)
 rw [<- ek] at q
 exact q
def qgo:Sp:=fun vs H Q _=>∃ (p:Addr) (m:Int) (n:Nat),vs=[.ref p,.int m]/\Pen H p n/\n < 100000/\0 < m/\m < 1073741824/\∀ (r:Int) (H':Hp),0≤r->r < m->Pen H' p (n + 1)->qa9 p H H'->Q (.int r) H'
def qmR (K:PySem.W.Frag):Sp:=fun vs H Q _=>∃ (a:Addr) (ns:List Int),vs=[.ref a]/\SqL K H a (ns.map V.int)/\∀ (p:Addr) (H':Hp),Same H H'->Pen H' p 0->Q (.ref p) H'
theorem qkH (ns:List Int)(lo hi:Option Int):∃ ms:List Int,cutV (ns.map V.int) lo hi=ms.map V.int:=by
 unfold cutV
 rw [<- List.map_drop,<- List.map_take]
 exact ⟨_,rfl⟩
def qdL:Sp:=fun vs H Q _=>∃ a b:Int,vs=[.int a,.int b]/\0≤a/\0≤b/\Q (.int (gI a b)) H
end
end My
namespace L2
open PySem PySem.Spec PyProof.Rows
theorem Sees.none1 {X:Cx}{scope:Scope}{x:Str}:Sees X scope [x] (fun _=>[none]):=fun σ=>⟨rfl,fun i y v _ h2=>by
 match i with
 | 0=>simp at h2
 | n + 1=>simp at h2⟩
theorem qej {X:Cx}{elt tg iter:Expr}{ifs:List Expr}{scope:Scope}{pos:Pos}{wi:TI}{g:TG}{tc:TT}{te:TE}{N:List Str}{σ0:St->St}
  (hc:X.calm=true) (hxe:∀ e s,X.xe e s->False) (hcell:∀ y∈scope.names,y.2 ≠ .cell) (hkind:scope.kind = .function) (hnames:∀ y∈scope.names,y.2 = .local->scope.names.lookup y.1=some .local)
  (hnf:∀ y∈scope.names,y.2 ≠ .free) (hσ:Sees X scope N σ0) (hi:PI X tg iter wi)
  (hg:∀ cl C s H ex,PG (qat X scope N cl C s H ex) tg g) (ht:∀ cl C s H ex,PTs (qat X scope N cl C s H ex) ifs tc) (he:∀ cl C s H ex,PE (qat X scope N cl C s H ex) elt te)
  (hs:∀ x,foldedSetIterable iter X.env x=pure x:=by intro _; rfl):PE X (.ListComp elt [⟨tg,iter,ifs,0⟩] scope pos) (qmP σ0 wi g tc te) :=
 qcF hc hxe hcell hkind hnames (fun y hy hf=>absurd hf (hnf y hy)) hσ hi hg ht he hs
mutual
inductive qcQ (H:Hp):V->PyData->Prop
 | non:qcQ H .non .none
 | bl (b:Bool):qcQ H (.bl b) (.bool b)
 | int (i:Int):qcQ H (.int i) (.int i)
 | str (x:Str):qcQ H (.str x) (.str x)
 | lst {a:Addr} {xs:List V} {ds:List PyData}:H a=some (.lst xs)->qdF H xs ds->qcQ H (.ref a) (.list ds)
 | tup {a:Addr} {xs:List V} {ds:List PyData}:H a=some (.tup xs)->qdF H xs ds->qcQ H (.ref a) (.tuple ds)
 | dict {a:Addr} {kvs:List (Key × V)} {ps:List (PyData × PyData)}:H a=some (.dK kvs)->qdF H (kvs.map fun p=>kV p.1) (ps.map (·.1))->qdF H (kvs.map (·.2)) (ps.map (·.2))->qcQ H (.ref a) (.dict ps)
inductive qdF (H:Hp):List V->List PyData->Prop
 | nil:qdF H [] []
 | cons {x:V} {xs:List V} {d:PyData} {ds:List PyData}:qcQ H x d->qdF H xs ds->qdF H (x :: xs) (d :: ds)
end
mutual
def lists:PyData->Bool
 | .list _=>true
 | .tuple xs=>qa0 xs
 | .dict kvs=>qet kvs
 | _=>false
def qa0:List PyData->Bool
 | []=>false
 | x :: xs=>lists x || qa0 xs
def qet:List (PyData × PyData)->Bool
 | []=>false
 | (k,v) :: r=>lists k || lists v || qet r
end
theorem qdR:∀ ps:List (PyData × PyData),qet ps=false->qa0 (ps.map (·.1))=false/\qa0 (ps.map (·.2))=false
 | [],_=>⟨rfl,rfl⟩
 | (k,v) :: r,h=>by
  simp only [qet,Bool.or_eq_false_iff] at h
  obtain ⟨h1,h2⟩:=qdR r h.2
  simp only [List.map_cons,qa0,Bool.or_eq_false_iff]
  exact ⟨⟨h.1.1,h1⟩,⟨h.1.2,h2⟩⟩
theorem qfP {P:Program}{w:World}:∀ {es:List DictEntry} {vs:List (Key × Value)} {kvs:List (Key × V)},Pairs (qau P w) es vs->KV kvs vs->Vals (kvs.map fun p=>kV p.1) (es.map (·.key))/\Vals (kvs.map (·.2)) (es.map (·.val)):=by
 intro es vs kvs h
 induction h generalizing kvs with
 | nil =>
  intro r
  cases r
  exact ⟨.nil,.nil⟩
 | @cons e kv es vs h1 h2 _ ih =>
  intro r
  cases r with
  | @cons p _ kvs' _ hp hr =>
   obtain ⟨a,b⟩:=ih hr
   refine ⟨.cons ?_ a,.cons ?_ b⟩
   ·have h1':qf3 kv.1 e.key=true:=h1
    rw [<- hp.1] at h1'
    rcases qaD h1' with ⟨i,t,e1,e2⟩ | ⟨x,t,e1,e2⟩
    ·show RelV (kV p.1) e.key
     rw [e1,e2]; exact ⟨t,rfl⟩
    ·show RelV (kV p.1) e.key
     rw [e1,e2]; exact ⟨t,rfl⟩
   ·show RelV p.2 e.val
    rw [h2]; exact hp.2
mutual
theorem qgy {P:Program}{w:World}{H:Hp}{h:Heap}(ok:HOk P w H h):∀ {v:V} {d:PyData} {u:Value},qcQ H v d->RelV v u->∃ as,Reads h u d as/\(lists d=false->sysModules ∉ as)
 | _,_,_,.non,r=>by cases r; exact ⟨[],.none,fun _=>by simp⟩
 | _,_,_,.bl b,r=>by cases r; exact ⟨[],.bool b,fun _=>by simp⟩
 | _,_,_,.int i,r=>by obtain ⟨t,rfl⟩:=r; exact ⟨[],.int i t,fun _=>by simp⟩
 | _,_,_,.str x,r=>by obtain ⟨t,rfl⟩:=r; exact ⟨[],.str x t,fun _=>by simp⟩
 | _,_,_,.lst (a:=a) (xs:=xs) ha hd,r=>by
  cases r
  obtain ⟨_,its,n,rv,e⟩:=ok a _ ha
  obtain ⟨as,hr,_⟩:=qbh ok hd rv
  exact ⟨a :: as,.list e rfl rfl (by simpa using hr),fun z=>by simp [lists] at z⟩
 | _,_,_,.tup (a:=a) (xs:=xs) ha hd,r=>by
  cases r
  obtain ⟨_,its,rv,o,e,hc,n,hdt,_⟩:=ok a _ ha
  obtain ⟨as,hr,hs⟩:=qbh ok hd rv
  exact ⟨as,.tuple e hc hdt (by simpa using hr),fun z=>hs (by simpa [lists] using z)⟩
 | _,_,_,.dict (a:=a) (kvs:=kvs) (ps:=ps) ha hk hv,r=>by
  cases r
  obtain ⟨_,hm,vs,rv,o,es,ep,e,hx,hdt,_,hp,_⟩:=ok a _ ha
  obtain ⟨rk,rvv⟩:=qfP hp rv
  obtain ⟨as,hr,hs⟩:=qbh ok hk rk
  obtain ⟨bs,hr',hs'⟩:=qbh ok hv rvv
  refine ⟨a :: as ++ bs,.dict e hx.1 hdt hr hr',fun z=>?_⟩
  obtain ⟨z1,z2⟩:=qdR ps (by simpa [lists] using z)
  have hne:a≠sysModules:=by simpa using hm
  simp only [List.cons_append,List.mem_cons,List.mem_append,not_or]
  exact ⟨fun q=>hne q.symm,hs z1,hs' z2⟩
theorem qbh {P:Program}{w:World}{H:Hp}{h:Heap}(ok:HOk P w H h):∀ {vs:List V} {ds:List PyData} {us:List Value},qdF H vs ds->Vals vs us->∃ as,ReadsAll h us ds as/\(qa0 ds=false->sysModules ∉ as)
 | _,_,_,.nil,r=>by cases r; exact ⟨[],.nil,fun _=>by simp⟩
 | _,_,_,.cons hx hd,r=>by
  cases r with
  | cons r1 r2 =>
   obtain ⟨as,h1,s1⟩:=qgy ok hx r1
   obtain ⟨bs,h2,s2⟩:=qbh ok hd r2
   refine ⟨as ++ bs,.cons h1 h2,fun z=>?_⟩
   simp only [qa0,Bool.or_eq_false_iff] at z
   simp only [List.mem_append,not_or]
   exact ⟨s1 z.1,s2 z.2⟩
end
theorem qjB:bootBuiltins "repr" = some (.builtin "repr"):=by decide +kernel
section
variable {X:Cx}
def rRepr:List V->Hp->VK->Prop:=fun xs H Q=>∃ v d,xs=[v]/\qcQ H v d/\d.showable=true/\(d.hasDict=true->lists d=false)/\d.depth≤20/\d.shown.length≤sizeLine/\Q (.str d.shown) H
theorem qfo {k:Nat}(hr:Room k X.A):qb8 X (.builtin "repr") rRepr:=by
 intro pins s σ H xs us Q I r h
 obtain ⟨v,d,rfl,hd,hs,hl,hdp,hz,q⟩:=h
 obtain ⟨u,rfl,ru⟩:=vals1 r
 obtain ⟨as,rd,hsm⟩:=qgy I.hok hd ru
 have fin:∀ h' u tk,(∀ b o,s.heap.get? b=some o->h'.get? b=some o)->EP X pins σ Q (.str d.shown u) { s with heap:=h',toks:=tk }:=fun h' u tk hk =>
  ⟨.str d.shown,H,I.kept (t':=tk) hk,⟨u,rfl⟩,q⟩
 cases u with
 | ref a=>exact repr_of_reads' rd hs (fun z=>hsm (hl z)) hr.gd (by have:=hr.un; omega) (fun _ _ e=>e) fin hz
 | none=>cases rd; rw [PyData.shown_none] at fin; exact PySem.P.repr_of_none (fin _ _ _ fun _ _ e=>e)
 | bool b=>cases rd; rw [PyData.shown_bool] at fin; exact PySem.P.repr_of_bool (fin _ _ _ fun _ _ e=>e)
 | int i t=>cases rd; rw [PyData.shown_int] at fin; exact PySem.P.repr_of_int (by simpa [PyData.showable] using hs) (fin _ _ _ fun _ _ e=>e)
 | str x t=>cases rd; rw [PyData.shown_str] at fin hz; exact PySem.P.repr_of_str (fin _ _ _ fun _ _ e=>e) hz
 | _=>cases rd
end
end L2
namespace L2
open PySem PySem.Spec PyProof.Rows MA
structure Good (d:PyData):Prop where
 sh:d.showable=true
 ld:d.hasDict=true->lists d=false
 dp:d.depth≤20
 ln:d.shown.length≤sizeLine
structure Sm (n:Nat)(d:PyData):Prop where
 sh:d.showable=true
 ld:(d.hasDict && lists d)=false
 dp:d.depth≤n
 lv:d.leavesShort 40=true
 bk:d.bulk≤n
theorem Sm.mono {m n:Nat}{d:PyData}(h:Sm m d)(l:m≤n):Sm n d:=⟨h.sh,h.ld,Nat.le_trans h.dp l,h.lv,Nat.le_trans h.bk l⟩
theorem Sm.good {n:Nat}{d:PyData}(h:Sm n d)(l:n≤100000)(l2:d.depth≤20):Good d:=by
 refine ⟨h.sh,fun z=>?_,l2,?_⟩
 ·have:=h.ld; rw [z] at this; simpa using this
 ·have a:=PyData.shown_le_bulk 40 (by decide) d h.lv
  have b:=h.bk
  have:(40 + 2) * d.bulk≤42 * 100000:=Nat.mul_le_mul (by omega) (by omega)
  rw [sizeLine_eq]
  omega
abbrev I18 (i:Int):Prop:=i.natAbs < 1000000000000000000
theorem qeR {i:Int}(h:I18 i):PyData.showable (.int i)=true:=by
 have h':i.natAbs < 1000000000000000000:=h
 simp only [PyData.showable,decide_eq_true_eq]
 by_cases z:i.natAbs=0
 ·rw [z]; decide
 ·exact (Nat.log2_lt z).mpr (Nat.lt_of_lt_of_le h' (Nat.le_trans (show (1000000000000000000:Nat)≤2 ^ 60 by decide) (Nat.pow_le_pow_right (by decide) (by decide))))
theorem qif {i:Int}(h:I18 i):PyData.leavesShort 40 (.int i)=true:=by
 have e:=int_text_length_le10 (a:=i) (k:=18) (by decide) (by have h':i.natAbs < 1000000000000000000:=h; exact Nat.lt_of_lt_of_le h' (by decide))
 simp only [PyData.leavesShort,decide_eq_true_eq]
 show (Str.ofString (toString i)).length≤40
 rw [PySem.ofString_length]; omega
theorem qid {i:Int}(h:I18 i)(n:Nat):Sm n (.int i):=⟨qeR h,rfl,Nat.zero_le _,qif h,Nat.zero_le _⟩
abbrev I36 (i:Int):Prop:=i.natAbs < 1000000000000000000000000000000000000
theorem qjW {i:Int}(h:I36 i)(n:Nat):Sm n (.int i):=by
 have h':i.natAbs < 1000000000000000000000000000000000000:=h
 refine ⟨?_,rfl,Nat.zero_le _,?_,Nat.zero_le _⟩
 ·simp only [PyData.showable,decide_eq_true_eq]
  by_cases z:i.natAbs=0
  ·rw [z]; decide
  ·exact (Nat.log2_lt z).mpr (Nat.lt_of_lt_of_le h' (Nat.le_trans (show (1000000000000000000000000000000000000:Nat)≤2 ^ 120 by decide) (Nat.pow_le_pow_right (by decide) (by decide))))
 ·have e:=int_text_length_le10 (a:=i) (k:=36) (by decide) (Nat.lt_of_lt_of_le h' (by decide))
  simp only [PyData.leavesShort,decide_eq_true_eq]
  show (Str.ofString (toString i)).length≤40
  rw [PySem.ofString_length]; omega
theorem qh4 (x:String):(Str.ofString x).cps.toList.all (fun c=>decide (c < 16 ^ 8))=true:=by
 rw [Str.ofString_eq_toList]
 simp only [List.all_eq_true,decide_eq_true_eq,List.mem_map]
 rintro c ⟨ch,_,rfl⟩
 have:=ch.valid
 have h2:ch.toNat < 0x110000:=by
  rcases this with h | ⟨_,h⟩
  ·exact Nat.lt_trans h (by decide)
  ·exact h
 have e:(16:Nat) ^ 8=4294967296:=by decide
 omega
theorem qkV {x:String}{n:Nat}(h:x.length≤n):Sm n (.str (Str.ofString x)):=⟨rfl,rfl,Nat.zero_le _,by simp only [PyData.leavesShort]; exact qh4 x,by
 simp only [PyData.bulk]
 show (Str.ofString x).length≤n
 rw [PySem.ofString_length]; exact h⟩
theorem qeP {ds:List PyData}{n m:Nat}(h:∀ d∈ds,Sm n d)(hd:(PyData.hasDictAll ds && qa0 ds)=false)(hm:n + 1≤m)(hm2:ds.length * (n + 1)≤m):Sm m (.tuple ds):=by
 have key:∀ ds:List PyData,(∀ d∈ds,Sm n d)->PyData.showableAll ds=true/\PyData.depthAll ds≤n/\PyData.leavesShortAll 40 ds=true/\PyData.bulkAll ds≤ds.length * (n + 1):=by
  intro ds
  induction ds with
  | nil=>intro _; exact ⟨rfl,Nat.zero_le _,rfl,Nat.zero_le _⟩
  | cons d ds ih =>
   intro h
   obtain ⟨a,b,c,e⟩:=ih fun d hd=>h d (List.mem_cons_of_mem _ hd)
   have hd:=h d List.mem_cons_self
   refine ⟨by simp [PyData.showableAll,hd.sh,a],by simp only [PyData.depthAll]; exact Nat.max_le.mpr ⟨hd.dp,b⟩,by simp [PyData.leavesShortAll,hd.lv,c],?_⟩
   simp only [PyData.bulkAll,List.length_cons,Nat.add_mul]
   have:=hd.bk
   omega
 obtain ⟨a,b,c,e⟩:=key ds h
 exact ⟨by simpa [PyData.showable] using a,by simpa [PyData.hasDict,lists] using hd,by simp only [PyData.depth]; omega,by simpa [PyData.leavesShort] using c,by simp only [PyData.bulk]; omega⟩
end L2
namespace L2
open PySem
theorem qjC:bootBuiltins "dict" = some (.type "dict"):=by decide +kernel
theorem qnF:bootBuiltins "sum" = some (.builtin "sum"):=by decide +kernel
theorem qdy:bootBuiltins "sorted" = some (.builtin "sorted"):=by decide +kernel
theorem qnG:bootBuiltins "min" = some (.builtin "min"):=by decide +kernel
end L2
namespace My
open PySem L2 MA
structure Txt2 (mg:Str->Option Value):Prop extends Txt mg where
 z_str:mg "str" = none
 z_repr:mg "repr" = none
 z_dict:mg "dict" = none
 z_sum:mg "sum" = none
 z_sorted:mg "sorted" = none
 z_max:mg "max" = none
 z_min:mg "min" = none
 z_any:mg "any" = none
 z_enumerate:mg "enumerate" = none
 z_zip:mg "zip" = none
 z_set:mg "set" = none
 z_reversed:mg "reversed" = none
 z_ValueError:mg "ValueError" = none
end My
namespace L2
open PySem PySem.Spec PyProof.Rows
def qfX:Expr->Bool
 | .Starred _ _=>false
 | _=>true
theorem qh6 {e:Expr}{es:List Expr}{env:Env}(h:qfX e=true):starEach (e :: es) env=(false,eval e env) :: starEach es env:=by
 cases e <;> first | rfl | exact absurd h (by simp [qfX])
section
variable {X:Cx}{e:Expr}{es:List Expr}{te:TE}{t:TA}{pos:Pos}
theorem pC (ha:PE X e te)(hr:PA X es t)(hn:qfX e=true:=by rfl):PA X (e :: es) (qls te t):=qlR ha hr (qh6 hn)
end
end L2
namespace L2
end L2
namespace L2
end L2
namespace L2
open PySem PySem.Spec PyProof.Rows
end L2
namespace L2
open PySem PySem.Spec PyProof.Rows MA
theorem Sees.frees {X:Cx}{scope:Scope}(ks:List Str)(fs:List (Str × Nat))(h:∀ p∈fs,scope.names.lookup p.1=some .free/\X.N[p.2]?=some p.1) :
  Sees X scope (ks ++ fs.map (·.1)) (fun σ=>ks.map (fun _=>none) ++ fs.map fun p=>σ.getD p.2 none):=by
 intro σ
 refine ⟨by simp,fun i x v h1 h2=>?_⟩
 by_cases hi:i < ks.length
 ·rw [List.getElem?_append_left (by simpa using hi),List.getElem?_map] at h2
  cases e:ks[i]? with
  | none=>rw [e] at h2; cases h2
  | some y=>rw [e] at h2; cases h2
 ·rw [List.getElem?_append_right (by omega),List.getElem?_map] at h1
  rw [List.getElem?_append_right (by simp; omega),List.getElem?_map,List.length_map] at h2
  cases e:fs[i - ks.length]? with
  | none=>rw [e] at h1; cases h1
  | some p =>
   rw [e] at h1 h2
   cases h1
   obtain ⟨a,b⟩:=h p (List.mem_of_getElem? e)
   refine ⟨a,p.2,b,?_⟩
   have h3:σ.getD p.2 none=some v:=by simpa using h2
   rw [List.getD_eq_getElem?_getD] at h3
   cases z:σ[p.2]? with
   | none=>rw [z] at h3; cases h3
   | some u=>rw [z] at h3; exact congrArg some h3
end L2
namespace L2
open PySem
theorem qbJ {C:Str × Nat->Prop}:∀ p∈([]:List (Str × Nat)),C p:=fun _ h=>nomatch h
theorem qaI {C:Str × Nat->Prop}{a:Str × Nat}{l:List (Str × Nat)}(h:C a)(t:∀ p∈l,C p):∀ p∈a :: l,C p:=fun p hp=>(List.mem_cons.mp hp).elim (fun e=>e ▸ h) (t p)
theorem qbH {scope:Scope}{env:Env}(h:scope.names.all (fun y=>y.2 != .free || env.kindOf y.1 == some .cell || env.kindOf y.1 == some .free)=true):∀ y∈scope.names,y.2 = .free->env.kindOf y.1=some .cell\/env.kindOf y.1=some .free:=by
 intro y hy hf
 have:=List.all_eq_true.mp h y hy
 rw [hf] at this
 simpa using this
end L2
namespace L2
open PySem PySem.Spec PyProof.Rows
end L2
namespace L2
open PySem PySem.Spec PyProof.Rows MA
def PrAt (H:Hp)(v:V)(p:Int × Int):Prop:=∃ a,v = .ref a/\H a=some (.tup [.int p.1,.int p.2])
def Prs (H:Hp):List V->List (Int × Int)->Prop:=Paired (PrAt H)
theorem PrAt.same {H H':Hp}{v:V}{p:Int × Int}(s:Same H H')(h:PrAt H v p):PrAt H' v p:=let ⟨a,e,h⟩:=h; ⟨a,e,s _ _ h⟩
theorem PrAt.updL {H:Hp}{l:Addr}{zs:List V}{o:HO}{v:V}{p:Int × Int}(hl:H l=some (.lst zs))(h:PrAt H v p):PrAt (upd H l o) v p:=by
 obtain ⟨a,rfl,ha⟩:=h
 exact ⟨a,rfl,by rw [uE (qb2 ha hl (by intro z; cases z))]; exact ha⟩
theorem Prs.same {H H':Hp}(s:Same H H'):∀ {xs:List V} {ps:List (Int × Int)},Prs H xs ps->Prs H' xs ps
 | _,_,.nil => .nil
 | _,_,.cons r t => .cons (r.same s) (Prs.same s t)
theorem Prs.updL {H:Hp}{l:Addr}{zs:List V}{o:HO}(hl:H l=some (.lst zs)):∀ {xs:List V} {ps:List (Int × Int)},Prs H xs ps->Prs (upd H l o) xs ps
 | _,_,.nil => .nil
 | _,_,.cons r t => .cons (r.updL hl) (Prs.updL hl t)
theorem Prs.snoc {H:Hp}{v:V}{p:Int × Int}(h:PrAt H v p):∀ {xs:List V} {ps:List (Int × Int)},Prs H xs ps->Prs H (xs ++ [v]) (ps ++ [p])
 | _,_,.nil => .cons h .nil
 | _,_,.cons r t => .cons r (Prs.snoc h t)
def dp (p:Int × Int):PyData := .tuple [.int p.1,.int p.2]
theorem Prs.data {H:Hp}:∀ {xs:List V} {ps:List (Int × Int)},Prs H xs ps->qdF H xs (ps.map dp)
 | _,_,.nil => .nil
 | _,_,.cons r t=>by
  obtain ⟨a,rfl,ha⟩:=r
  exact .cons (.tup ha (.cons (.int _) (.cons (.int _) .nil))) (Prs.data t)
theorem qck:∀ ps:List (Int × Int),PyData.hasDictAll (ps.map dp)=false
 | []=>rfl
 | q :: qs=>by simp [PyData.hasDictAll,dp,PyData.hasDict,qck qs]
theorem qg8:∀ ps:List (Int × Int),PyData.depthAll (ps.map dp)≤1
 | []=>Nat.zero_le _
 | q :: qs=>by
  have:=qg8 qs
  simp only [List.map_cons,PyData.depthAll,dp,PyData.depth]
  omega
end L2
namespace L2
open PySem PySem.Spec PyProof.Rows
end L2
namespace L2
open PySem PySem.Spec PyProof.Rows MA
section
variable {X:Cx}
theorem qmc:IxR X (fun x y H Q=>∃ p xs i v,x = .ref p/\y = .int i/\H p=some (.tup xs)/\atI xs i=some v/\Q v H):=by
 intro value slice pins s σ H x y v u Q I rx ry h hs
 obtain ⟨p,xs,i,w',e1,e2,hp,ha,q⟩:=h
 exact qas value slice pins s σ H x y v u Q I rx ry ⟨p,xs,i,w',e1,e2,SqT.of hp,ha,q⟩ hs
end
section
variable {X:Cx}
def qkX (K:PySem.W.Frag):R2:=fun x y H Q=>∃ a b xs ys,x = .ref a/\y = .ref b/\SqT K H a xs/\SqT K H b ys/\xs.length + ys.length≤sizeLine /\
 (xs=[]->Q (.ref b) H)/\(xs≠[]->ys=[]->Q (.ref a) H)/\(xs≠[]->ys≠[]->∀ p,H p=none->Q (.ref p) (upd H p (.tup (xs ++ ys))))
theorem qgK:OpR X (binaryOp .Add) (qkX X.K):=by
 intro pins s σ H x y v u Q I rx ry h
 obtain ⟨a,b,xs,ys,e1,e2,ha,hb,hz,q0,q1,q2⟩:=h
 by_cases e:xs=[]
 ·subst e1 e2
  subst e
  cases rx
  cases ry
  obtain ⟨its,r1,p1,_⟩:=I.tuple ha
  obtain ⟨its2,r2,p2,_⟩:=I.tuple hb
  cases r1
  obtain ⟨⟨cls,dd,data,sl⟩,ho,hc,n,hd⟩:=id p1
  obtain ⟨⟨cls2,dd2,data2,sl2⟩,ho2,hc2,n2,hd2⟩:=id p2
  simp only at hc hd hc2 hd2
  subst hc hd hc2 hd2
  exact concat_meets ⟨_,ho,rfl⟩ ⟨_,ho2,rfl⟩ noFill_tuple_add seq_tuple_add PySem.F.slot_tuple_add PySem.F.entry_tuple_add (PySem.F.args_tuple_add_2 _ _)
   (tuple_addW0 a b [].toArray its2.toArray n n2 dd dd2 sl sl2 (by simp)) ⟨ho,ho2,⟨.ref b,H,I,rfl,q0 rfl⟩⟩
 ·exact qlT pins s σ H x y v u Q I rx ry ⟨a,b,xs,ys,e1,e2,ha,hb,e,hz,q1 e,q2 e⟩
end
theorem qhi (l:Addr)(items:Array Value)(n:Nat)(dd:Option Addr)(sl:Array (Option Value))(u:Tok) :
  Meets (Builtin.«tuple.__mul__» ⟨[.ref l,.int 1 u],[]⟩) (fun _ R s=>s.heap.get? l=some { cls := .type "tuple",dict:=dd,data := .seq items n,slots:=sl }/\R (.ok (.ret (Value.ref l))) { s with heap:=s.heap,toks:=s.toks }) :=
 .of_wp fun prog w A R s h=>by
  obtain ⟨hp,g,d,tk,os⟩:=s; obtain ⟨hl,h⟩:=h
  have f1:=AutoSeq1.idx_int; have f2:=AutoSeq1.sub_tuple_tuple; have f3:=AutoSeq1.sub_list_list; have f4:=AutoSeq1.sub_tuple_list; have f5:=AutoSeq1.sub_list_tuple
  wp_walk using wpAny_loadPart' hl
  exact ⟨_,rfl,h⟩
theorem qhj (l:Addr)(items:Array Value)(n:Nat)(dd:Option Addr)(sl:Array (Option Value))(u:Tok)(he:¬ items.isEmpty=true) :
  Meets (Builtin.«tuple.__mul__» ⟨[.ref l,.int 0 u],[]⟩) (fun _ R s=>s.heap.get? l=some { cls := .type "tuple",dict:=dd,data := .seq items n,slots:=sl }/\R (.ok (.ret (Value.ref s.heap.objs.size))) { s with heap:=s.heap.push { cls:=Value.type "tuple",data:=Data.seq #[] },toks:=s.toks }) :=
 .of_wp fun prog w A R s h=>by
  obtain ⟨hp,g,d,tk,os⟩:=s; obtain ⟨hl,h⟩:=h
  have f1:=AutoSeq1.idx_int; have f2:=AutoSeq1.sub_tuple_tuple; have f3:=AutoSeq1.sub_list_list; have f4:=AutoSeq1.sub_tuple_list; have f5:=AutoSeq1.sub_list_tuple
  wp_walk using wpAny_loadPart' hl
  exact ⟨_,rfl,h⟩
theorem qhh (l:Addr)(items:Array Value)(n:Nat)(dd:Option Addr)(sl:Array (Option Value))(x:Int)(u:Tok)(he:items.isEmpty=false)(h1:(decide (x < -(2 ^ 63)) || decide (x ≥ 2 ^ 63))=false)(h2:(x == 1)=false)(h3:decide (x≤0)=false)
  (h4:decide ((items.size:Int) * x > (2 ^ 63 - 1) / 8)=false) (h5:Builtin.Tuple.tupleTooMany ((items.size:Int) * x)=false) (h6:((List.replicate x.toNat items).foldl (· ++ ·) #[]).size≤sizeLine) :
  Meets (Builtin.«tuple.__mul__» ⟨[.ref l,.int x u],[]⟩) (fun _ R s=>s.heap.get? l=some { cls := .type "tuple",dict:=dd,data := .seq items n,slots:=sl }/\R (.ok (.ret (Value.ref s.heap.objs.size))) { s with heap:=s.heap.push { cls:=Value.type "tuple",data:=Data.seq ((List.replicate x.toNat items).foldl (· ++ ·) #[]) },toks:=s.toks }) :=
 .of_wp fun prog w A R s h=>by
  obtain ⟨hp,g,d,tk,os⟩:=s; obtain ⟨hl,h⟩:=h
  have f1:=AutoSeq1.idx_int; have f2:=AutoSeq1.sub_tuple_tuple; have f3:=AutoSeq1.sub_list_list; have f4:=AutoSeq1.sub_tuple_list; have f5:=AutoSeq1.sub_list_tuple
  wp_walk using wpAny_loadPart' hl
  refine wpAny_ite_false (by rw [h1]; rfl) ?_
  wp_walk using wpAny_loadPart' hl
  refine wpAny_ite_false h4 ?_
  wp_walk using wpAny_loadPart' hl
  first
  | exact ⟨_,rfl,h⟩
  | (refine wpAny_ite_false (by rw [h5]; rfl) ?_
     wp_walk using wpAny_loadPart' hl
     first
     | exact ⟨_,rfl,h⟩
     | (refine wpAny_ite_false (decide_eq_false (Nat.not_lt.mpr h6)) ?_
        wp_walk using wpAny_loadPart' hl
        exact ⟨_,rfl,h⟩))
  | (refine wpAny_ite_false (decide_eq_false (Nat.not_lt.mpr h6)) ?_
     wp_walk using wpAny_loadPart' hl
     exact ⟨_,rfl,h⟩)
theorem qcZ:fillsNumberSlot (.type "tuple") "mul" = pure false :=
 PySem.fillsNumberSlot_seq (id := "tuple.__mul__") (r:=some (.builtin "tuple.__rmul__")) F.slot_tuple_mul.lookup (by decide +kernel) F.slot_tuple_rmul.lookup (by decide +kernel)
theorem qeX:seqRepeat? (.type "tuple")=pure (some (.builtin "tuple.__mul__")):=by
 unfold seqRepeat?
 rw [PySem.seqSlot_of (T := "tuple") (name := "__mul__") (id := "tuple.__mul__") F.slot_tuple_mul.lookup (by decide +kernel),PySem.seqSlot_of (T := "tuple") (name := "__rmul__") (id := "tuple.__rmul__") F.slot_tuple_rmul.lookup (by decide +kernel)]
 rfl
theorem qdD (a:Int)(t:Tok)(l:Addr)(items:Array Value)(n:Nat)(d:Option Addr)(sl:Array (Option Value)) :
  Meets (Builtin.«int.__rmul__» ⟨[.int a t,.ref l],[]⟩) (fun _ R s=>s.heap.get? l=some { cls := .type "tuple",dict:=d,data := .seq items n,slots:=sl }/\R (.ok (.ret Value.notImplemented)) s) :=
 .of_wp fun prog w A R s h=>by obtain ⟨hp,g,d,tk,os⟩:=s; obtain ⟨hl,h⟩:=h; wp_walk; exact ⟨_,rfl,h⟩
theorem qdT {α:Type}(its:List α):∀ (m:Nat) (acc:List α),List.foldl (fun x1 x2=>x1 ++ x2) acc.toArray (List.replicate m its.toArray)=(acc ++ (List.replicate m its).flatten).toArray
 | 0,acc=>by simp
 | m + 1,acc=>by
  rw [List.replicate_succ,List.foldl_cons,List.replicate_succ,List.flatten_cons]
  have:acc.toArray ++ its.toArray=(acc ++ its).toArray:=by simp
  rw [this,qdT its m (acc ++ its),List.append_assoc]
section
variable {X:Cx}
theorem qlS:OpR X (binaryOp .Mult) (fun x y H Q=>∃ l k xs,x = .ref l/\y = .int k/\H l=some (.tup xs)/\xs≠[]/\0≤k/\k≤1000/\xs.length≤1000 /\
  (k=1->Q (.ref l) H)/\(k≠1->∀ p,H p=none->Q (.ref p) (upd H p (.tup (List.replicate k.toNat xs).flatten)))):=by
 intro pins s σ H x y v u Q I rx ry h
 obtain ⟨l,k,xs,rfl,rfl,hH,hne,k0,k1,hx,q1,q2⟩:=h
 cases rx
 obtain ⟨t,rfl⟩:=ry
 obtain ⟨its,r,p1,hz⟩:=I.tuple (SqT.of (K:=X.K) hH)
 have hlen:=r.length
 have hne':its≠[]:=fun z=>hne (r.nil_iff.mp z)
 obtain ⟨⟨cls,dd,data,sl⟩,ho,hc,n,hd⟩:=id p1
 simp only at hc hd
 subst hc hd
 refine wpAny_binaryOp_repeat_ref (T := "tuple") (U := "int") (by decide) ⟨_,ho,rfl⟩ (fun s'=>typeIs_int s' k t) qcZ F.fills_int_mul F.slot_int_rmul qeX F.slot_int_index.lookup
  (call_meets F.slot_int_rmul (typeIs_int s k t) F.entry_int_rmul (F.args_int_rmul_2 _ _) (qdD k t l its.toArray n dd sl) ⟨ho,rfl,⟨_,ho,rfl⟩,?_⟩)
 have new:∀ zs:List V,∀ us:List Value,Vals zs us->zs.length≤sizeLine->(∀ p,H p=none->Q (.ref p) (upd H p (.tup zs)))->EP X pins σ Q (.ref s.heap.objs.size) { s with heap:=s.heap.push { cls := .type "tuple",data := .seq us.toArray } }:=fun zs us rz hzs hq =>
  ⟨.ref s.heap.objs.size,_,I.laid (t':=s.toks) (o := .tup zs) (fun b ob q=>Heap.get?_push_of_some _ q) (Nat.le_refl _) ⟨hzs,_,rz,qbM.new _ _⟩,rfl,hq _ (I.hok.fresh (Nat.le_refl _))⟩
 by_cases e1:k=1
 ·subst e1
  exact call_meets F.slot_tuple_mul ⟨_,ho,rfl⟩ F.entry_tuple_mul (F.args_tuple_mul_2 _ _) (qhi l its.toArray n dd sl t) ⟨ho,⟨.ref l,H,I,rfl,q1 rfl⟩⟩
 by_cases e0:k=0
 ·subst e0
  exact call_meets F.slot_tuple_mul ⟨_,ho,rfl⟩ F.entry_tuple_mul (F.args_tuple_mul_2 _ _) (qhj l its.toArray n dd sl t (by simpa using hne')) ⟨ho,new [] [] .nil (by simp) (q2 (by decide))⟩
 have hfold:List.foldl (fun x1 x2=>x1 ++ x2) #[] (List.replicate k.toNat its.toArray)=(List.replicate k.toNat its).flatten.toArray:=by
  have:=qdT its k.toNat []
  simpa using this
 have hsz:(its.length:Int) * k≤1000 * 1000:=Int.mul_le_mul (by omega) k1 k0 (by decide)
 have hflat:(List.replicate k.toNat its).flatten.length≤sizeLine:=by
  rw [len_rep]
  have:k.toNat * its.length≤1000 * 1000:=Nat.mul_le_mul (by omega) (by omega)
  rw [sizeLine_eq]; omega
 refine call_meets F.slot_tuple_mul ⟨_,ho,rfl⟩ F.entry_tuple_mul (F.args_tuple_mul_2 _ _) (qhh l its.toArray n dd sl k t (by simpa using hne') ?_ (by simpa using e1) (by simp; omega) ?_ ?_ (by rw [hfold]; simpa using hflat)) ⟨ho,?_⟩
 ·simp; omega
 ·simp; omega
 ·unfold Builtin.Tuple.tupleTooMany
  rw [List.size_toArray,sizeLine_eq]
  simp
  omega
 ·rw [hfold]
  refine new _ _ (r.rep k.toNat) ?_ (q2 e1)
  rw [len_rep]
  have:k.toNat * xs.length≤1000 * 1000:=Nat.mul_le_mul (by omega) (by omega)
  rw [sizeLine_eq]; omega
end
end L2
namespace L2
open PySem PySem.Spec PyProof.Rows
section
variable {X:Cx}{pins:List (Addr × Obj)}{σ:St}{H:Hp}{s:Shared}{h':Heap}{fp:List Addr}
theorem Inv.turnedL {t':Nat}(I:Inv X pins σ H s)(hf:∀ b∈fp,FpOk X pins H b)(k:∀ b o,b ∉ fp->s.heap.get? b=some o->h'.get? b=some o):Inv X pins σ H { s with heap:=h',toks:=t' }:=by
 have nit:∀ b u,H b=some u->b ∉ fp:=fun b u e z=>by rw [(hf b z).1] at e; cases e
 have hL:X.env.locals ∉ fp:=fun z=>(hf _ z).2.1 rfl
 refine I.step (g':=s.gens) (d':=s.drawn) (ch:=fp) (fun b hb=>⟨(hf b hb).2.2.2.1,(hf b hb).2.1,(hf b hb).2.2.2.2.1,(hf b hb).2.2.2.2.2⟩) (fun b o _ _ hc e _=>k b o hc e) (fun b o _ _ hc e _=>⟨o.slots,k b o hc e⟩) (fun _ _ _ _ n=>n)
  (fun b o hc e=>⟨o,k b o hc e⟩) (fun _ _ e=>e) (fun _ _ _ e=>e) (fun b ps e=>⟨#[],by rw [e]; simp⟩) (fun m hm=>?_) (fun b u e=>?_) I.bare
 ·obtain ⟨o,es,ep,ho,r⟩:=hm
  exact ⟨o,es,ep,k _ o hL ho,r⟩
 ·refine (I.hok b u e).stay (fun c v hc q=>k c v ?_ q) (fun _ q=>q) fun _ _ q=>q
  rcases hc with z | z
  ·rw [z]; exact nit b u e
  ·exact nit c _ z
theorem Inv.turnedNew {t':Nat}{T:Addr}{u:HO}(I:Inv X pins σ H s)(hf:∀ b∈fp,FpOk X pins H b)(k:∀ b o,b ∉ fp->s.heap.get? b=some o->h'.get? b=some o)(hT:s.heap.objs.size≤T)(new:qaR X.prog X.w (upd H T u) h' T u) :
  Inv X pins σ (upd H T u) { s with heap:=h',toks:=t' }:=by
 have hn:H T=none:=I.hok.fresh hT
 have nit:∀ b u,H b=some u->b ∉ fp:=fun b u e z=>by rw [(hf b z).1] at e; cases e
 have hL:X.env.locals ∉ fp:=fun z=>(hf _ z).2.1 rfl
 have nT:∀ b o,s.heap.get? b=some o->b≠T:=fun b o e=>Nat.ne_of_lt (Nat.lt_of_lt_of_le (Heap.lt_size e) hT)
 refine I.step (g':=s.gens) (d':=s.drawn) (ch:=fp) (fun b hb=>⟨(hf b hb).2.2.2.1,(hf b hb).2.1,(hf b hb).2.2.2.2.1,(hf b hb).2.2.2.2.2⟩) (fun b o _ _ hc e _=>k b o hc e) (fun b o _ _ hc e _=>⟨o.slots,k b o hc e⟩) (fun b o _ e n=>by rw [uE (nT b o e)]; exact n)
  (fun b o hc e=>⟨o,k b o hc e⟩) (fun b xs e=>by rw [uE (qab e hn)]; exact e) (fun b o v e=>by rw [uE (qab e hn)]; exact e) (fun b ps e=>⟨#[],by rw [uE (qab e hn),e]; simp⟩) (fun m hm=>?_) (fun b v e=>?_) I.bare
 ·obtain ⟨o,es,ep,ho,r⟩:=hm
  exact ⟨o,es,ep,k _ o hL ho,r⟩
 ·by_cases hb:b=T
  ·subst hb; rw [uS] at e; cases e; exact new
  ·rw [uE hb] at e
   refine (I.hok b v e).stay (fun c v' hc q=>k c v' ?_ q) (fun c q=>by rw [uE (qab q hn)]; exact q) (fun c xs q=>by rw [uE (qab q hn)]; exact q) fun c ob q=>by rw [uE (qab q hn)]; exact q
   rcases hc with z | z
   ·rw [z]; exact nit b v e
   ·exact nit c _ z
end
end L2
namespace My
open PySem L2 MA
end My
namespace L2
open PySem PySem.Spec PyProof.Rows
def gTup0 (n:Nat)(t:TGs):TG:=fun v σ H Q=>∃ a xs,v = .ref a/\H a=some (.tup xs)/\xs.length=n/\t xs σ H Q
theorem qb0 {X:Cx}{pos:Pos}{es:List Expr}{k:Nat}{t:TGs}{n:Nat}(hc:X.calm=true)(h:PGs X es t)
  (hn:(assignEach es X.env).length=n:=by rfl) (hst:(assignEach es X.env).findIdx? (·.1)=none:=by rfl):PG X (.Tuple es k pos) (gTup0 n t):=by
 intro pins s σ H v u Q I r hw
 obtain ⟨a,xs,e1,hq,hl,hw⟩:=hw
 exact qcT hc h hn hst pins s σ H v u Q I r ⟨a,xs,e1,SqT.of hq,hl,hw⟩
end L2
namespace My
open PySem L2 MA
end My
namespace L2
open PySem PySem.Spec PyProof.Rows
section
variable {prog:Program}{w:World}{A:Around}{E:Value->Shared->Prop}{s:Shared}
theorem qe5 {it t:Addr}{i:Nat}{its:Array Value}{x:Value}{Q:Value->Shared->Prop}(hi:s.heap.IsTupleIter it t i)(hs:s.heap.IsTuple t its)(hx:its[i]?=some x)
  (k:∀ h',h'.IsTupleIter it t (i + 1)->Heap.SameBut it s.heap h'->Q x { s with heap:=h' }):wpAny (model prog w) A (Builtin.SmallTypes.nextOf (.ref it)) Q E s:=by
 obtain ⟨ob,e1,e2,e3⟩:=id hi
 obtain ⟨oq,f1,f2,n,f3⟩:=hs
 unfold Builtin.SmallTypes.nextOf
 refine wpAny_bind (wpAny_callSpecial?_slot (name:=Str.ofString "__next__") hi.typeIs F.slot_tuple_iterator_next (wpAny_call_entry F.slot_tuple_iterator_next hi.typeIs F.entry_tuple_iterator_next ?_ (F.args_tuple_iterator_next_1 _)))
 refine wpAny_bind (m:=field (.ref it) 0) (wpAny_field e1 e3 (x := .ref t) rfl ?_)
 show wpAny (model prog w) _ (if (Value.ref t == Value.none)=true then _ else _) _ _ s
 rw [if_neg (by intro z; cases z)]
 refine wpAny_bind (m:=field (.ref it) 1) (wpAny_field e1 e3 (x := .int i 0) rfl ?_)
 refine wpAny_bind (m:=seqItems? (.ref t)) (wpAny_seqItems f1 f3 ?_)
 simp only [hx,Int.toNat_natCast]
 refine wpAny_bind (wpAny_setField e1 e3 (by simp) (wpAny_pure ⟨x,rfl,wpAny_pure (k _ ⟨_,Heap.get?_update_self _ e1 (Obj.isFreed_of_fields (Obj.data_mapFields e3 _)),(Obj.cls_mapFields ..).trans e2,?_⟩ (Heap.SameBut.update ..))⟩))
 rw [Obj.data_mapFields e3]
 simp [rawInt]
theorem qdj {it t:Addr}{i:Nat}{its:Array Value}{Q:Value->Shared->Prop}(hh:A.handled=none)(hi:s.heap.IsTupleIter it t i)(hs:s.heap.IsTuple t its)(hx:its[i]?=none)
  (k:∀ h' e,Heap.ExtBut it s.heap h'->(∃ o,h'.get? e=some o/\o.cls = .type "StopIteration")->E (.ref e) { s with heap:=h' }):wpAny (model prog w) A (Builtin.SmallTypes.nextOf (.ref it)) Q E s:=by
 obtain ⟨ob,e1,e2,e3⟩:=id hi
 obtain ⟨oq,f1,f2,n,f3⟩:=hs
 unfold Builtin.SmallTypes.nextOf
 refine wpAny_bind (wpAny_callSpecial?_slot (name:=Str.ofString "__next__") hi.typeIs F.slot_tuple_iterator_next (wpAny_call_entry F.slot_tuple_iterator_next hi.typeIs F.entry_tuple_iterator_next ?_ (F.args_tuple_iterator_next_1 _)))
 refine wpAny_bind (m:=field (.ref it) 0) (wpAny_field e1 e3 (x := .ref t) rfl ?_)
 show wpAny (model prog w) _ (if (Value.ref t == Value.none)=true then _ else _) _ _ s
 rw [if_neg (by intro z; cases z)]
 refine wpAny_bind (m:=field (.ref it) 1) (wpAny_field e1 e3 (x := .int i 0) rfl ?_)
 refine wpAny_bind (m:=seqItems? (.ref t)) (wpAny_seqItems f1 f3 ?_)
 simp only [hx,Int.toNat_natCast]
 refine wpAny_bind (wpAny_rule (wpAny_bind (wpAny_setField e1 e3 (by simp) (wpAny_bind (m:=newExc (.type "StopIteration") []) ?_))))
 simp only [newTuple,newExc]
 refine wpAny_bind (wpAny_newObj_type (wpAny_bind (m:=firstArgMember _ _) (wpAny_of_eq (a:=Value.none) (by first | rfl | (simp only [firstArgMember]; rfl)) (wpAny_newObj_type ?_ (by size_fits)))) (by size_fits))
 simp only [raiseNew]
 refine wpAny_bind (wpAny_handled ?_)
 rw [show A.in1.handled=none from hh]
 refine wpAny_bind (wpAny_pure (wpAny_throw (k _ _ (((Heap.SameBut.update ..).extBut.push _).push _) ⟨_,Heap.get?_push_size _ rfl,rfl⟩)))
end
def IsB (h:Heap):Bool->Addr->Array Value->Prop
 | true=>h.IsList
 | false=>h.IsTuple
def qdE (h:Heap):Bool->Addr->Addr->Nat->Prop
 | true=>h.IsListIter
 | false=>h.IsTupleIter
def SqB (K:PySem.W.Frag)(H:Hp):Bool->Addr->List V->Prop
 | true=>SqL K H
 | false=>SqT K H
theorem IsB.at {h h':Heap}{b:Bool}{a:Addr}{its:Array Value}(x:IsB h b a its)(k:∀ o,h.get? a=some o->h'.get? a=some o):IsB h' b a its:=by
 cases b <;> (obtain ⟨o,e,r⟩:=x; exact ⟨o,k o e,r⟩)
theorem qdE.at {h h':Heap}{b:Bool}{a l:Addr}{i:Nat}(x:qdE h b a l i)(k:∀ o,h.get? a=some o->h'.get? a=some o):qdE h' b a l i:=by
 cases b <;> (obtain ⟨o,e,r⟩:=x; exact ⟨o,k o e,r⟩)
theorem qdE.ob {h:Heap}{b:Bool}{a l:Addr}{i:Nat}(x:qdE h b a l i):∃ o,h.get? a=some o/\∀ v,o.data ≠ .cell v:=by
 cases b <;> (obtain ⟨o,e,_,d⟩:=x; exact ⟨o,e,fun v z=>by rw [d] at z; cases z⟩)
theorem IsB.lt {h:Heap}{b:Bool}{a:Addr}{its:Array Value}(x:IsB h b a its):a < h.objs.size:=by
 cases b <;> (obtain ⟨o,e,_⟩:=x; exact Heap.lt_size e)
theorem qnA {prog:Program}{w:World}{A:Around}(hh:A.handled=none)(b:Bool)(it l:Addr)(hne:l≠it)(its:Array Value) :
  Draws prog w A it [it,l] its.size (fun i v=>its[i]?=some v) (fun i h=>qdE h b it l i/\IsB h b l its):=by
 cases b with
 | true=>exact Draws.list hh it l hne its
 | false =>
  exact {
   live:=fun _ _ st=>let ⟨o,ho,_⟩:=st.1; ⟨o,ho⟩
   frame:=fun _ _ _ st hk=>⟨st.1.at fun o e=>hk it (by simp) o e,st.2.at fun o e=>hk l (by simp) o e⟩
   item:=fun i s Q E hi st hQ=>qe5 st.1 st.2 (x:=its[i]) (by simp [hi]) fun h' a sb=>hQ _ h' s.toks (by simp [hi]) ⟨a,st.2.at fun o e=>(sb.2 l hne).trans e⟩ sb
   done:=fun s Q E st hE=>qdj hh st.1 st.2 (by simp) hE }
section
variable {X:Cx}{pins:List (Addr × Obj)}{σ:St}{H:Hp}{s:Shared}{a:Addr}{xs ys:List V}{b:Bool}
theorem Inv.seqB (I:Inv X pins σ H s)(h:SqB X.K H b a xs):∃ its:List Value,Vals xs its/\IsB s.heap b a its.toArray/\xs.length≤sizeLine:=by
 cases b with
 | true=>obtain ⟨its,r,p,z⟩:=I.list h; exact ⟨its,r,p.isList,z⟩
 | false=>obtain ⟨its,r,p,z⟩:=I.tuple h; exact ⟨its,r,p,z⟩
theorem Inv.seqB_inj (I:Inv X pins σ H s)(h:SqB X.K H b a xs)(h':SqB X.K H b a ys):xs=ys:=by
 cases b with
 | true=>exact I.list_inj h h'
 | false=>exact I.tuple_inj h h'
end
section
variable {prog:Program}{w:World}{A:Around}{E:Value->Shared->Prop}{s:Shared}
theorem qkj {b:Bool}{it t:Addr}{i:Nat}{its:Array Value}{Q:Value->Shared->Prop}(hh:A.handled=none)(hi:qdE s.heap b it t i)(hs:IsB s.heap b t its)(hx:its[i]?=none)
  (k:∀ h' e,Heap.ExtBut it s.heap h'->(∃ o,h'.get? e=some o/\o.cls = .type "StopIteration")->E (.ref e) { s with heap:=h' }):wpAny (model prog w) A (Builtin.SmallTypes.nextOf (.ref it)) Q E s:=by
 cases b with
 | true=>exact wpAny_nextOf_list_end hh hi hs hx k
 | false=>exact qdj hh hi hs hx k
def itc:Bool->String
 | true => "list_iterator"
 | false => "tuple_iterator"
abbrev zG1 (h:Heap)(b1:Bool)(l1:Addr):Heap:=h.push { cls := .type (itc b1),data := .fields #[.ref l1,.int 0 0] }
theorem qfJ {b:Bool}{l:Addr}{its:Array Value}{Q:Value->Shared->Prop}(hl:IsB s.heap b l its)
  (hQ:Q (.ref s.heap.objs.size) { s with heap:=s.heap.push { cls := .type (itc b),data := .fields #[.ref l,.int 0 0] } }):wpAny (model prog w) A (pyIter (.ref l)) Q E s:=by
 cases b with
 | true=>exact wpAny_pyIter_list hl hQ
 | false=>exact wpAny_pyIter_tuple hl hQ
end
section
variable {prog:Program}{w:World}{A:Around}{E:Value->Shared->Prop}{s:Shared}
theorem qjf (b:Bool)(l:Addr)(its:Array Value) :
  Meets (Builtin.«enumerate.__new__» ⟨[.type "enumerate",.ref l],[]⟩) (fun _ R s=>IsB s.heap b l its /\
   R (.ok (.ret (.ref (zG1 s.heap b l).objs.size))) { s with heap:=(zG1 s.heap b l).push { cls := .type "enumerate",data := .fields #[.none,.bool false,.ref s.heap.objs.size,rawInt 0,.none,.none] } }) :=
 .of_wp fun prog w A R s h=>by
  obtain ⟨hp,g,d,tk,os⟩:=s
  obtain ⟨q1,h⟩:=h
  have hsub:=sub_enumerate
  have a1:IsB (Shared.heap ⟨hp,g,d,tk,os⟩) b l its:=q1
  have hl:∃ o,hp.get? l=some o:=by cases b <;> (obtain ⟨o,e,_⟩:=q1; exact ⟨o,e⟩)
  obtain ⟨o,hl⟩:=hl
  wp_walk using AutoSeq1.wpAny_loadPart' hl
  refine wpAny_stack_any fun st=>wpAny_pure ?_
  split
  ·rename_i c _ _ _ _ _
   cases (c == Value.type "enumerate")
   ·wp_walk using AutoSeq1.wpAny_loadPart' hl,qfJ a1
    exact ⟨_,rfl,h⟩
   ·wp_walk using AutoSeq1.wpAny_loadPart' hl,qfJ a1
    exact ⟨_,rfl,h⟩
  ·wp_walk using AutoSeq1.wpAny_loadPart' hl,qfJ a1
   exact ⟨_,rfl,h⟩
theorem qhK {b:Bool}{l:Addr}{its:Array Value}{Q:Value->Shared->Prop}(q1:IsB s.heap b l its)
  (h:∀ h',IsEnum h' (s.heap.objs.size + 1) s.heap.objs.size 0 .none->qdE h' b s.heap.objs.size l 0->(∀ c o,s.heap.get? c=some o->h'.get? c=some o)->Q (.ref (s.heap.objs.size + 1)) { s with heap:=h' }) :
  wpAny (model prog w) A (call (.type "enumerate") [.ref l]) Q E s:=by
 refine callType_new F.called_enumerate (by decide) (F.typeCall_enumerate_1 _) (F.newCall_enumerate_1 _) (fun obj=>F.args_object_init_2 obj _) F.entry_enumerate_new (qjf b l its) ⟨q1,?_⟩
 have n1:(zG1 s.heap b l).objs.size=s.heap.objs.size + 1:=Heap.size_push ..
 have g2:((zG1 s.heap b l).push { cls := .type "enumerate",data := .fields #[.none,.bool false,.ref s.heap.objs.size,rawInt 0,.none,.none] }).get? (zG1 s.heap b l).objs.size=some _:=Heap.get?_push_size _ rfl
 have g1:((zG1 s.heap b l).push { cls := .type "enumerate",data := .fields #[.none,.bool false,.ref s.heap.objs.size,rawInt 0,.none,.none] }).get? s.heap.objs.size=some _:=Heap.get?_push_of_some _ (Heap.get?_push_size _ rfl)
 show _/\_
 rw [n1] at g2
 rw [n1]
 refine ⟨⟨_,g2,rfl⟩,h _ g2 ?_ fun c o q=>Heap.get?_push_of_some _ (Heap.get?_push_of_some _ q)⟩
 cases b <;> exact ⟨_,g1,rfl,rfl⟩
theorem qjg {b:Bool}{e it l:Addr}{k:Nat}{its:Array Value}{i:Int}{old:Value}{Q:Option Value->Shared->Prop}(hh:A.in1.handled=none)(he:IsEnum s.heap e it i old)(h1:qdE s.heap b it l k)(h2:IsB s.heap b l its)(hx:its[k]?=none)
  (K:∀ h',Heap.ExtBut it s.heap h'->Q none { s with heap:=h' }):wpAny (model prog w) A (pyNext (.ref e)) Q E s:=by
 have T:s.TypeIs (.ref e) "enumerate" := ⟨_,he,rfl⟩
 unfold pyNext
 refine wpAny_bind (wpAny_attempt (wpAny_callSpecial?_slot (name:=Str.ofString "__next__") T F.slot_enumerate_next (wpAny_call_entry F.slot_enumerate_next T F.entry_enumerate_next ?_ (F.args_enumerate_next_1 _))))
 refine wpAny_bind (m:=field (.ref e) 2) (wpAny_field he rfl (x := .ref it) rfl (wpAny_bind (qkj hh h1 h2 hx fun h' x he' ⟨o,ho,hc⟩=>?_)))
 exact wpAny_bind (wpAny_isInstance (T := "StopIteration") (b:=true) ⟨o,ho,hc⟩ isSubtype_stop (wpAny_pure (K _ he')))
end
def ItE (K:PySem.W.Frag)(b:Bool)(a:Addr):It :=
 ⟨fun i H=>∃ xs x,SqB K H b a xs/\xs[i]?=some x,
  fun i H v H'=>∃ p x,v = .ref p/\H p=none/\H'=upd H p (.tup [.int i,x])/\∀ xs,SqB K H b a xs->xs[i]?=some x,
  fun i H=>∃ xs,SqB K H b a xs/\xs.length≤i⟩
theorem qhg {P:Program}{w:World}{K:PySem.W.Frag}{elts:List Expr}{c:Nat}{pos:Pos}{b:Bool}{e it a:Addr}(hei:e≠it)(hea:e≠a)(hia:a≠it) :
  Turn P w K (.Tuple elts c pos) (ItE K b a) [e,it] e (fun i h=>(∃ old,IsEnum h e it i old)/\qdE h b it a i) where
 mem:=by simp
 obj:=fun i h st x hx=>by
  obtain ⟨⟨old,he⟩,h1⟩:=st
  simp only [List.mem_cons,List.not_mem_nil,or_false] at hx
  rcases hx with rfl | rfl
  ·exact ⟨_,he,fun _ q=>by cases q⟩
  ·exact h1.ob
 keep:=fun i h h' st k=>by
  obtain ⟨⟨old,he⟩,h1⟩:=st
  exact ⟨⟨old,k e (by simp) _ he⟩,h1.at fun o q=>k it (by simp) o q⟩
 item:=by
  intro X hP hw hK hc i pins s σ H E I hf st hg
  subst hP hw hK
  obtain ⟨xs,x,hq1,hx⟩:=hg
  obtain ⟨its1,rv1,p1,_⟩:=I.seqB hq1
  obtain ⟨u,hu,ru⟩:=rv1.get hx
  obtain ⟨⟨old,he⟩,h1⟩:=st
  have hi:i < its1.toArray.size:=by
   have:=rv1.length
   have h2:=(List.getElem?_eq_some_iff.mp hx).1
   simp; omega
  have hh:X.A.in1.handled=none:=I.ok.hd hc
  refine wpAny_pyNext_enum_itemD (qnA hh b it a hia its1.toArray) he ⟨h1,p1⟩ hi hei (by simp [hei,hea]) fun y h' tk hy eo st' hT hsz hk=>⟨_,rfl,?_⟩
  obtain rfl:y=u:=by
   have hy':its1[i]?=some y:=by simpa using hy
   rw [hu] at hy'
   exact (Option.some.inj hy').symm
  have lt:∀ {c o},s.heap.get? c=some o->s.heap.objs.size≠c:=fun q=>Nat.ne_of_gt (Heap.lt_size q)
  refine wpAny_letOwnedTupleGo_enum (s:={ s with heap:=h',toks:=tk + 1 }) eo fun h'' c1 sb=>?_
  have hn:H s.heap.objs.size=none:=I.hok.fresh (Nat.le_refl _)
  have kk:∀ c o,c ∉ [e,it]->s.heap.get? c=some o->h''.get? c=some o:=fun c o hc' q=>by
   simp only [List.mem_cons,List.not_mem_nil,or_false,not_or] at hc'
   exact (sb.2 _ hc'.1).trans (hk c o hc'.1 hc'.2 q)
  have T1:h''.get? s.heap.objs.size=some { cls := .type "tuple",data := .seq #[.int i tk,y] }:=(sb.2 _ (lt he)).trans hT
  refine ⟨.ref s.heap.objs.size,upd H s.heap.objs.size (.tup [.int i,x]),I.turnedNew (t':=tk + 1) hf kk (Nat.le_refl _) ⟨by show 2≤_; decide,[.int i tk,y],.cons ⟨_,rfl⟩ (.cons ru .nil),_,T1,rfl,_,rfl,rfl⟩,rfl,⟨_,x,rfl,hn,rfl,fun xs' q1=>?_⟩,
   ⟨⟨_,by simpa using c1⟩,st'.1.at fun o q=>(sb.2 _ hei.symm).trans q⟩,fun b hb=>?_⟩
  ·rw [I.seqB_inj q1 hq1]; exact hx
  ·rw [uE]
   ·exact (hf b hb).1
   ·simp only [List.mem_cons,List.not_mem_nil,or_false] at hb
    obtain ⟨o1,e1,_⟩:=h1.ob
    rcases hb with rfl | rfl
    ·exact (lt he).symm
    ·exact (lt e1).symm
 done:=by
  intro X hP hw hK hc i pins s σ H E I hf st hg
  subst hP hw hK
  obtain ⟨xs,hq1,hx⟩:=hg
  obtain ⟨its1,rv1,p1,_⟩:=I.seqB hq1
  have l1:=rv1.length
  obtain ⟨⟨old,he⟩,h1⟩:=st
  have hh:X.A.in1.handled=none:=I.ok.hd hc
  exact qjg hh he h1 p1 (by simp; omega) fun h' eb=>⟨rfl,I.turnedL (t':=s.toks) hf fun c o hc' q=>eb c o (by simp at hc'; exact hc'.2) q⟩
 self:=fun _ _ _ _ _ st h=>by
  obtain ⟨⟨old,he⟩,_⟩:=st
  exact wpAny_pyIter_enum he h
def qnv (K:PySem.W.Frag)(b:Bool)(ta:TA):TI:=fun σ H R=>ta σ H fun vs H1=>∃ a,vs=[.ref a]/\(∃ xs,SqB K H1 b a xs)/\R (ItE K b a) H1
theorem boot_enumerate:bootBuiltins "enumerate" = some (.type "enumerate"):=by decide +kernel
theorem qj6 (b:Bool){X:Cx}{elts:List Expr}{c:Nat}{tpos:Pos}{a:Expr}{ta:TA}{p pos:Pos}(hg:Gl X "enumerate")(hm:X.mg "enumerate" = none)(ha:PA X [a] ta)(hs:starEach [a] X.env=[(false,eval a X.env)]:=by rfl) :
  PI X (.Tuple elts c tpos) (.Call (.Name "enumerate" p) [a] [] pos) (qnv X.K b ta):=by
 intro pins s σ H R I h
 refine Call_ (qfa I hg hm boot_enumerate (PyProof.Rows.callWith_type1 (thn (ha pos pins s σ H _ I h) fun us s1 ⟨vs,H1,I1,r1,q1⟩=>?_) hs rfl))
 obtain ⟨a,e,⟨xs,hq1⟩,q⟩:=q1
 subst e
 cases r1 with
 | cons r rr =>
  cases rr
  cases r
  obtain ⟨its1,rv1,p1,_⟩:=I1.seqB hq1
  have la:=p1.lt
  refine qhK p1 fun h' a1 a2 hk=>wpAny_pyIter_enum a1 ?_
  refine ⟨_,_,_,_,H1,rfl,I1.kept (t':=s1.toks) hk,qhg (e:=s1.heap.objs.size + 1) (it:=s1.heap.objs.size) (Nat.succ_ne_self _) ?_ ?_,⟨⟨_,a1⟩,a2⟩,fun x hx=>?_,q⟩
  ·exact Nat.ne_of_gt (Nat.lt_succ_of_lt la)
  ·exact Nat.ne_of_lt la
  ·have hx':s1.heap.objs.size≤x:=by
    simp only [List.mem_cons,List.not_mem_nil,or_false] at hx
    rcases hx with rfl | rfl <;> (show (_:Nat)≤(_:Nat)) <;> omega
   exact I1.fpOk hx' (I1.hok.fresh hx')
section
variable {X:Cx}
def qm0:V->List V->Hp->VK->Prop:=fun x vs H Q=>∃ l xs y j,x = .ref l/\vs=[y]/\H l=some (.lst xs)/\xs.all qc1=true/\qc1 y=true/\j < xs.length/\eqV (xs.getD j .non) y=true/\(∀ m,m < j->eqV (xs.getD m .non) y=false)/\Q (.int (j:Nat)) H
theorem qkl:MtR X "list.index" qm0:=by
 intro pins s σ H x vs v us Q I rx rv h
 obtain ⟨l,xs,y,j,rfl,rfl,hH,fx,fy,hj,hit,hno,q⟩:=h
 cases rx
 obtain ⟨u,rfl,ru⟩:=rv.one
 obtain ⟨z,its,n,r,hl,e⟩:=I.lstM hH
 have hlen:=r.length
 have eu:∀ m (hm:m < its.length),eqU y its[m]=eqV (xs.getD m .non) y:=fun m hm=>by
  obtain ⟨u',h1,h2⟩:=r.get (i:=m) (x:=xs[m]'(by omega)) (List.getElem?_eq_getElem (by omega))
  rw [List.getElem?_eq_getElem hm] at h1
  cases h1
  rw [qg5 h2 (List.all_eq_true.mp fx _ (List.getElem_mem _)),qaa (by omega)]
 refine call_meets F.slot_list_index ⟨_,e,rfl⟩ F.entry_list_index (F.args_list_index_2 _ _) (SeqAt.list_indexAt l its.toArray n none #[] u (eqU y) j (by simp; omega) ?_ ?_ fun m hm h1=>?_) ⟨e,fun w hw=>?_,?_⟩
 ·have:xs.length≤sizeLine:=z
  rw [sizeLine_eq] at this
  omega
 ·have:=eu j (by omega)
  simpa using this.trans hit
 ·have:=eu m (by simpa using hm)
  simpa using this.trans (hno m h1)
 ·obtain ⟨y',hy,ry⟩:=qd4 r (by simpa using hw)
  have fy':qc1 y'=true:=List.all_eq_true.mp fx _ hy
  rw [qg5 ry fy']
  exact qle ry ru fy' fy
 ·exact ⟨.int (j:Nat),H,I.tok _,⟨s.toks,rfl⟩,q⟩
def rGetL:V->V->Hp->VK->Prop:=fun o i H Q=>∃ p xs k v,o = .ref p/\i = .int k/\0≤k/\H p=some (.lst xs)/\atI xs k=some v/\Q v H
theorem qev:PGet X rGetL:=by
 intro pins s σ H o i ov iv Q I ro ri h
 obtain ⟨p,xs,k,z,rfl,rfl,h0,hp,he,q⟩:=h
 cases ro
 obtain ⟨t,rfl⟩:=ri
 obtain ⟨its,r,pl,hz⟩:=I.list (SqL.of (K:=X.K) hp)
 obtain ⟨j,h1,h2,h3,h4,h5⟩:=qf9 he
 obtain ⟨w,ew,rw'⟩:=r.get h2
 have hl:=r.length
 have hn:=qe9
 have hj:k.toNat=j:=by
  rw [seqIndex_of h0 h5] at h1
  exact Option.some.inj h1
 exact wpAny_getItem_list pl.isList h0 (by omega) (by rw [hj]; simpa using ew) ⟨z,H,I,rw',q⟩
end
end L2
namespace L2
open PySem PySem.Spec PyProof.Rows MA
abbrev iv (ns:List Int):List V:=ns.map V.int
theorem qns {ns:List Int}{i:Nat}(h:i < ns.length):(iv ns)[i]?=some (.int ns[i]):=by rw [List.getElem?_map,List.getElem?_eq_getElem h]; rfl
theorem qaW {ns:List Int}{i:Nat}(h:i < ns.length):atI (iv ns) (i:Int)=some (.int (ns.getD i 0)):=by
 rw [qdA (qns h),qaa h]
theorem qme (ns:List Int)(k:Nat):(iv ns).take k=iv (ns.take k):=List.map_take.symm
theorem qmf (ns:List Int)(k:Nat):(iv ns).drop k=iv (ns.drop k):=List.map_drop.symm
theorem cut_take {xs:List V}{k:Nat}(h:k≤xs.length):cutV xs none (some (k:Int))=xs.take k:=by
 unfold cutV
 rw [HT.sIx_nat,HT.sIx_none]
 simp only [List.drop_zero,Nat.sub_zero]
 rw [Nat.min_eq_left h]
theorem cut_drop {xs:List V}{k:Nat}(h:k≤xs.length):cutV xs (some (k:Int)) none=xs.drop k:=by
 unfold cutV
 rw [HT.sIx_nat,HT.sIx_none]
 rw [List.take_of_length_le (by rw [List.length_drop]; omega),Nat.min_eq_left h]
theorem qdv (H:Hp):∀ ns:List Int,qdF H (iv ns) (ns.map PyData.int)
 | [] => .nil
 | n :: ns => .cons (.int n) (qdv H ns)
theorem qb1:∀ ns:List Int,PyData.hasDictAll (ns.map PyData.int)=false
 | []=>rfl
 | n :: ns=>by simp [PyData.hasDictAll,PyData.hasDict,qb1 ns]
theorem qlA {ns:List Int}{m:Nat}(h:∀ x∈ns,I36 x)(hm:2≤m)(hm2:ns.length * 2≤m):Sm m (.tuple (ns.map PyData.int)) :=
 qeP (n:=1) (fun d hd=>by obtain ⟨x,hx,rfl⟩:=List.mem_map.mp hd; exact qjW (h x hx) 1) (by rw [qb1]; rfl) hm (by rw [List.length_map]; exact hm2)
theorem qdW:∀ ns:List Int,PyData.depthAll (ns.map PyData.int)=0
 | []=>rfl
 | n :: ns=>by simp [PyData.depthAll,PyData.depth,qdW ns]
end L2
namespace My
open PySem L2 MA
theorem lz {m:Nat}(n:Nat)(h:m=n)(hn:n≤100:=by decide):m≤sizeLine:=by
 rw [h,sizeLine_eq]; omega
theorem lzz {m:Nat}(h:m≤10000):m≤sizeLine:=by rw [sizeLine_eq]; omega
theorem lzl {m:Nat}(h:m≤10000):m < sizeLine:=by rw [sizeLine_eq]; omega
theorem qgF {H H2:Hp}{p acc:Addr}{n m:Nat}(hn:H acc=none)(hp:Pen H p n)(x:qa9 p H H2)(hp2:Pen H2 p m)(o:HO):Pen (upd H2 acc o) p m/\qa9 p H (upd H2 acc o):=by
 obtain ⟨c,ns,a,l,h1,h2,_,_⟩:=hp
 obtain ⟨c',ns',a',l',h1',h2',h3',h4'⟩:=hp2
 have hap:p≠acc:=qab h1 hn
 have hac:c≠acc:=qab h2 hn
 obtain ⟨a'',l'',e⟩:=x.pen c a l h1
 rw [h1'] at e
 have ec:c'=c:=by
  have e':=congrArg (fun o=>match o with | some (HO.dK ((_,V.ref q) :: _))=>q | _=>c) e
  exact e'
 subst ec
 refine ⟨⟨c',ns',a',l',by rw [uE hap]; exact h1',by rw [uE hac]; exact h2',h3',h4'⟩,⟨fun b u hb hbp=>?_,fun c2 a2 l2 e2=>?_⟩⟩
 ·rw [uE (qab hb hn)]; exact x.all b u hb hbp
 ·rw [uE hap]; exact x.pen c2 a2 l2 e2
theorem Pen.nep {H:Hp}{p b:Addr}{n:Nat}{o:HO}(hp:Pen H p n)(hb:H b=some o)(ho:∀ kvs,o ≠ .dK kvs:=by intro _ z; cases z):b≠p:=by
 obtain ⟨kvs,e⟩:=hp.dk
 rintro rfl
 rw [hb] at e
 cases e
 exact ho _ rfl
theorem Pen.keep {H H':Hp}{p b:Addr}{n:Nat}{o:HO}(hp:Pen H p n)(x:qa9 p H H')(hb:H b=some o)(ho:∀ kvs,o ≠ .dK kvs:=by intro _ z; cases z):H' b=some o:=x.all b o hb (hp.nep hb ho)
end My
namespace L2
open PySem PySem.Spec PyProof.Rows MA
end L2
namespace HT
open PySem PySem.Spec PyProof.Rows
section
variable {prog:Program}{w:World}{A:Around}{E:Value->Shared->Prop}{s:Shared}
theorem getItem_tuple_all {t sl:Addr}{items:Array Value}{vl vu:Value}{lo hi:Option Int}{Q:Value->Shared->Prop}(ht:IsTup s.heap t items)(hs:s.heap.IsSliceOf sl vl vu .none)(pl:IsPart vl lo)(pu:IsPart vu hi)
  (hw:sIx items.size 0 lo=0/\sIx items.size items.size hi=items.size) (h:Q (.ref t) s):wpAny (model prog w) A (getItem (.ref t) (.ref sl)) Q E s:=by
 obtain ⟨os,q1,q2,q3⟩:=id hs
 have T:s.TypeIs (.ref sl) "slice" := ⟨os,q1,q2⟩
 unfold getItem
 try with_reducible refine wpAny_holding ?_
 first | refine wpAny_bind (wpAny_pure ?_) | skip
 refine wpAny_bind (wpAny_sequenceKey ht.typeIs (by decide) (wpAny_bind (wpAny_callSpecial?_slot (name:=Str.ofString "__getitem__") ht.typeIs PyProof.Rows.slot_tuple_getitem (wpAny_call_entry PyProof.Rows.slot_tuple_getitem ht.typeIs entry_tuple_getitem ?_ (args_tuple_getitem _ _)))))
 refine wpAny_bind (m:=Builtin.Tuple.tupleItemsOf (.ref t)) (tupleItemsOf_ ht (wpAny_bind (wpAny_typeOf T ?_)))
 rw [if_pos (by decide)]
 refine wpAny_bind (qbC hs pl pu ?_)
 show wpAny (model prog w) _ (if (((sIx items.size 0 lo:Nat):Int) == 0 && (1:Int) == 1 && (sIx items.size items.size hi - sIx items.size 0 lo) == items.size)=true then _ else _) _ _ s
 rw [if_pos (by rw [hw.1,hw.2]; simp)]
 refine wpAny_bind (m:=Builtin.Tuple.tupleIsExact (.ref t)) ?_
 unfold Builtin.Tuple.tupleIsExact
 refine wpAny_bind (wpAny_typeOf ht.typeIs (wpAny_pure ?_))
 rw [if_pos (by decide)]
 exact wpAny_bind (wpAny_rule (wpAny_pure ⟨_,rfl,wpAny_pure h⟩))
end
end HT
namespace L2
open PySem PySem.Spec PyProof.Rows MA
theorem qeb {X:Cx}:SlR X (fun x lo hi H Q=>∃ a xs,x = .ref a/\H a=some (.tup xs)/\∀ c H',Same H H'->H' c=some (.tup (cutV xs lo hi))->Q (.ref c) H'):=by
 intro pins s σ H x v vl vu lo hi sl Q I rx hs pl pu h
 obtain ⟨a,xs,e,hx,q⟩:=h
 by_cases hw:HT.sIx xs.length 0 lo=0/\HT.sIx xs.length xs.length hi=xs.length
 ·subst e
  cases rx
  obtain ⟨its,r,ht,hz⟩:=I.tuple (SqT.of (K:=X.K) hx)
  have hlen:its.toArray.size=xs.length:=by rw [List.size_toArray]; exact r.length.symm
  refine ⟨"tuple",_,PyProof.Rows.slot_tuple_getitem.lookup,ht.typeIs,HT.getItem_tuple_all ht hs pl pu (by rw [hlen]; exact hw) ⟨.ref a,H,I,rfl,q a H (Same.refl _) ?_⟩⟩
  have:cutV xs lo hi=xs:=by
   unfold cutV
   rw [hw.1,hw.2]
   simp
  rw [this]
  exact hx
 ·exact qmU pins s σ H x v vl vu lo hi sl Q I rx hs pl pu ⟨a,xs,e,SqT.of hx,hw,fun p hp=>q p _ (sN hp _) uS⟩
section
variable {X:Cx}{e:Expr}{te:TE}{p2 p3 p4 pos:Pos}
theorem qeo:OpR X (binaryOp .Add) (fun x y H Q=>∃ a b xs ys,x = .ref a/\y = .ref b/\H a=some (.tup xs)/\H b=some (.tup ys)/\xs.length + ys.length≤1000/\∀ c H',Same H H'->H' c=some (.tup (xs ++ ys))->Q (.ref c) H'):=by
 intro pins s σ H x y v u Q I rx ry h
 obtain ⟨a,b,xs,ys,e1,e2,ha,hb,hz,q⟩:=h
 refine qgK pins s σ H x y v u Q I rx ry ⟨a,b,xs,ys,e1,e2,SqT.of ha,SqT.of hb,by rw [sizeLine_eq]; omega,fun e=>?_,fun _ e=>?_,fun _ _ p hp=>?_⟩
 ·subst e; exact q b H (Same.refl _) (by simpa using hb)
 ·subst e; exact q a H (Same.refl _) (by simpa using ha)
 ·exact q p _ (sN hp _) uS
theorem rep1 (x:Int):∀ k:Nat,(List.replicate k [V.int x]).flatten=iv (List.replicate k x)
 | 0=>rfl
 | k + 1=>by rw [List.replicate_succ,List.flatten_cons,rep1 x k,List.replicate_succ]; rfl
end
end L2
namespace L2
open PySem PySem.Spec PyProof.Rows
abbrev TB:=St->Hp->(St->Hp->Prop)->Prop
def PB (X:Cx)(p:Addr)(body:Value->Env->Sem Unit)(t:TB):Prop :=
 ∀ (pins:List (Addr × Obj)) (s:Shared) (σ:St) (H:Hp) (Q:St->Hp->Prop),Inv X pins σ H s->t σ H Q ->
  wpAny (model X.prog X.w) X.A (body (.ref p) X.env) (fun _ s'=>∃ σ' H',Inv X pins σ' H' s'/\Q σ' H') X.xe s
def qkO (J:It)(g:TG)(tc:TT)(tb:TB)(σ:St)(H:Hp)(Q:St->Hp->Prop):Prop :=
 ∃ W:Nat->Nat->St->Hp->Prop,(∃ m,W 0 m σ H)/\∀ i m σ' H',W i m σ' H' ->
  (J.stop i H'/\Q σ' H')\/(J.go i H'/\∀ x H2,J.yld i H' x H2->g x σ' H2 fun σ2 H3=>tc σ2 H3 fun b H4=>if b=true then tb σ2 H4 fun σ5 H5=>∃ m',m' < m/\W (i + 1) m' σ5 H5 else ∃ m',m' < m/\W (i + 1) m' σ2 H4)
def qnz (elt:Expr):Value->Env->Sem Unit:=fun acc env=>do let _ <- call (.builtin "list.append") [acc,<- eval elt env]
def qlr (p:Addr)(te:TE):TB:=fun σ H Q=>te σ H fun v H5=>∃ ys,ys.length < sizeLine/\H5 p=some (.lst ys)/\Q σ (upd H5 p (.lst (ys ++ [v])))
theorem qlQ {X:Cx}{p:Addr}{elt:Expr}{te:TE}(he:PE X elt te):PB X p (qnz elt) (qlr p te):=by
 intro pins s σ H Q I h
 refine wpAny_bind (thn (he pins s σ H _ I h) fun y s8 h8=>?_)
 obtain ⟨v,H8,I8,r8,ys,hz,hH8,w8⟩:=h8
 refine wpAny_bind (thn (qcl (X:=X) _ s8 σ H8 (.ref p) [v] (.ref p) [y] (fun x H9=>x = .non/\H9=upd H8 p (.lst (ys ++ [v]))) I8 rfl (.cons r8 .nil) ⟨p,ys,v,rfl,rfl,hH8,hz,rfl,rfl⟩) fun _ s9 h9=>?_)
 obtain ⟨z,H9,I9,_,_,e9⟩:=h9
 subst e9
 exact wpAny_pure ⟨σ,_,I9,w8⟩
def qeJ (e:Expr)(d:Nat)(tg iter:Expr)(ifs:List Expr)(body:Value->Env->Sem Unit)(it acc:Value)(env:Env):Sem Fin:=do
 standAt iter.pos
 match <- pyNext it with
 | none=>pure (.done .next)
 | some v =>
  letOwnedTupleGo tg it v
  assign tg env v
  let mut ok:=true
  for c in ifs do
   if ok then ok <- isTrue c env (eval c env)
  if ok then
   body acc env
  again (.compLoop e d it acc env)
def twoL (e:Expr)(iter:Expr):Value->Env->Sem Unit:=fun acc env=>do
 let x <- eval iter env
 standAt iter.pos
 let x <- foldedSetIterable iter env x
 let _ <- runOwn (.compStart e 1 (<- holding [x] (pyIter x)) acc env) env
theorem qhV (elt tg iter tg2 iter2:Expr)(ifs ifs2:List Expr)(scope:Scope)(pos:Pos)(it acc:Value)(env:Env) :
  compTurn (.ListComp elt [⟨tg,iter,ifs,0⟩,⟨tg2,iter2,ifs2,0⟩] scope pos) 0 it acc env=qeJ (.ListComp elt [⟨tg,iter,ifs,0⟩,⟨tg2,iter2,ifs2,0⟩] scope pos) 0 tg iter ifs (twoL (.ListComp elt [⟨tg,iter,ifs,0⟩,⟨tg2,iter2,ifs2,0⟩] scope pos) iter2) it acc env:=by
 unfold qeJ
 refine congrArg (standAt iter.pos >>= ·) (funext fun _=>congrArg (pyNext it >>= ·) (funext fun r=>?_))
 cases r with
 | none=>rfl
 | some v =>
  refine congrArg (letOwnedTupleGo tg it v >>= ·) (funext fun _=>congrArg (assign tg env v >>= ·) (funext fun _=>congrArg (_ >>= ·) (funext fun ok=>?_)))
  cases ok with
  | false=>rfl
  | true =>
   rw [if_pos rfl,if_pos rfl]
   simp only [twoL,bind_assoc]
   rfl
theorem qhU (elt tg iter tg2 iter2:Expr)(ifs ifs2:List Expr)(scope:Scope)(pos:Pos)(it acc:Value)(env:Env) :
  compTurn (.ListComp elt [⟨tg,iter,ifs,0⟩,⟨tg2,iter2,ifs2,0⟩] scope pos) 1 it acc env=qeJ (.ListComp elt [⟨tg,iter,ifs,0⟩,⟨tg2,iter2,ifs2,0⟩] scope pos) 1 tg2 iter2 ifs2 (qnz elt) it acc env:=by rfl
theorem qjT {M:Model}{A:Around}{R:Result->Shared->Prop}{s:Shared}{e:Expr}{d:Nat}{g:Comprehension}{it acc:Value}{env:Env}(hg:(clausesOf e)[d]?=some g)(ha:g.is_async=0)
  (h0:codeAny M A (.compLoop e d it acc env) R s) (hden:M.den (.compStart e d it acc env)=(compStart e d it acc env).onRaise (fun x=>do noteFrame x env; standAt theWindowsPlace)) (hun:A.under (.compStart e d it acc env)=A) (hq:Code.quiet (.compLoop e d it acc env)=true)
  (h:wpAny M A (pyIter it) (fun it' s'=>codeAny M A (.compLoop e d it' acc env) R s') (notedBy M A env fun x s'=>R (.error x) s') s) (hq':∀ it',Code.quiet (.compLoop e d it' acc env)=true):codeAny M A (.compStart e d it acc env) R s:=by
 refine codeAny_of_tree ?_
 rw [hden,hun]
 refine wpAny_notedAt ?_
 unfold compStart
 rw [hg]
 simp only [Option.elim,ha]
 show wpAny _ _ (ask >>= _) _ _ s
 refine wpAny_bind (wpAny_askSetting (wpAny_ite ?_))
 split
 ·first
   | exact wpAny_bind (wpAny_pure (wpAny_pure ⟨hq,h0⟩))
   | exact wpAny_pure ⟨hq,h0⟩
 ·refine wpAny_bind (wpAny_rule ?_)
  show wpAny _ _ (standAt g.iter.pos >>= _) _ _ s
  exact wpAny_bind (wpAny_standAt (wpAny_bind (wpAny_mono h (fun it' s' h'=>wpAny_pure ⟨hq' it',h'⟩) fun _ _ x=>x)))
theorem qiO {X:Cx}{elt tg iter:Expr}{gens:List Comprehension}{scope:Scope}{pos:Pos}{d:Nat}{ifs:List Expr}{body:Value->Env->Sem Unit}{J:It}{fp:List Addr}{it p:Addr}{tn:Nat->Heap->Prop}{g:TG}{tc:TT}{tb:TB}{pins:List (Addr × Obj)}{s:Shared}{σ:St}{H:Hp}{Q:St->Hp->Prop}{R:Result->Shared->Prop}
  (hturn:compTurn (.ListComp elt gens scope pos) d (.ref it) (.ref p) X.env=qeJ (.ListComp elt gens scope pos) d tg iter ifs body (.ref it) (.ref p) X.env) (hc:X.calm=true) (hxe:∀ e s,X.xe e s->False) (T:Turn X.prog X.w X.K tg J fp it tn) (hg:PG X tg g) (ht:PTs X ifs tc) (hb:PB X p body tb)
  (I:Inv X pins σ H s) (st:tn 0 s.heap) (f2:∀ b∈fp,FpOk X pins H b) (h:qkO J g tc tb σ H Q) (hR:∀ s' σ' H',Inv X pins σ' H' s'->Q σ' H'->R (.ok .next) s') :
  codeAny (model X.prog X.w) X.A (.compLoop (.ListComp elt gens scope pos) d (.ref it) (.ref p) X.env) R s:=by
 obtain ⟨W,⟨m0,w0⟩,turn⟩:=h
 have stat:∀ {H':Hp},(∀ b∈fp,H' b=none)->∀ b∈fp,FpOk X pins H' b:=fun hn b hb=>⟨hn b hb,(f2 b hb).2⟩
 refine codeAny_loop rfl (fun n s'=>∃ i σ' H',Inv X pins σ' H' s'/\tn i s'.heap/\(∀ b∈fp,H' b=none)/\W i n σ' H') (fun n s' hI=>?_) m0 ⟨0,σ,H,I,st,fun b hb=>(f2 b hb).1,w0⟩
 obtain ⟨i,σ',H',J',st',fr',w'⟩:=hI
 show wpAny _ X.A ((compTurn (.ListComp elt gens scope pos) d (.ref it) (.ref p) X.env).onRaise (fun x=>do noteFrame x X.env; theTreesLotGoes x)) _ _ s'
 refine wpAny_noted ?_
 rw [hturn]
 unfold qeJ
 rcases turn i n σ' H' w' with ⟨stop,q⟩ | ⟨go,step⟩
 ·refine wpAny_bind (wpAny_standAt (wpAny_bind (wpAny_mono (T.done X rfl rfl rfl hc i pins s' σ' H' X.xe J' (stat fr') st' stop) (fun r s4 h4=>?_) fun _ _ x=>(hxe _ _ x).elim)))
  obtain ⟨hr,I4⟩:=h4
  subst hr
  exact wpAny_pure (hR s4 σ' H' I4 q)
 ·refine wpAny_bind (wpAny_standAt (wpAny_bind (wpAny_mono (T.item X rfl rfl rfl hc i pins s' σ' H' X.xe J' (stat fr') st' go) (fun r s4 h4=>?_) fun _ _ x=>(hxe _ _ x).elim)))
  obtain ⟨u,hr,h4⟩:=h4
  subst hr
  refine wpAny_bind (wpAny_mono h4 (fun _ s5 h5=>?_) fun _ _ x=>(hxe _ _ x).elim)
  obtain ⟨x,H5,I5,r5,y5,st5,fr5⟩:=h5
  have I5':=I5.pinned (stat fr5) (T.obj _ _ st5)
  refine wpAny_bind (wpAny_mono (hg _ s5 σ' H5 x u _ I5' r5 (step x H5 y5)) (fun _ s6 h6=>?_) fun _ _ x=>(hxe _ _ x).elim)
  obtain ⟨σ6,H6,I6,q6⟩:=h6
  have again:∀ {σ7:St} {H7:Hp} {s7:Shared},Inv X (pins ++ qdQ fp s5.heap) σ7 H7 s7->(∃ m',m' < n/\W (i + 1) m' σ7 H7) ->
    ∃ m,m < n/\∃ i σ' H',Inv X pins σ' H' s7/\tn i s7.heap/\(∀ b∈fp,H' b=none)/\W i m σ' H':=fun {σ7 H7 s7} I7 n7=>by
   obtain ⟨m',hm,w7⟩:=n7
   refine ⟨m',hm,i + 1,σ7,H7,I7.unpinned,T.keep _ _ _ st5 fun b hb o e=>(I7.pin (b,o) (List.mem_append_right _ (List.mem_append_right _ (qbg hb e)))).1,fun b hb=>?_,w7⟩
   obtain ⟨o,e,d⟩:=T.obj _ _ st5 b hb
   exact (I7.pin (b,o) (List.mem_append_right _ (List.mem_append_right _ (qbg hb e)))).2.1
  refine wpAny_bind (wpAny_mono (ht _ s6 σ6 H6 _ I6 q6) (fun ok s7 h7=>?_) fun _ _ x=>(hxe _ _ x).elim)
  obtain ⟨H7,I7,q7⟩:=h7
  cases ok with
  | false =>
   rw [if_neg Bool.false_ne_true] at q7
   exact wpAny_pure ⟨rfl,again I7 q7⟩
  | true =>
   rw [if_pos rfl] at q7
   refine wpAny_bind (wpAny_mono (hb _ s7 σ6 H7 _ I7 q7) (fun y s8 h8=>?_) fun _ _ x=>(hxe _ _ x).elim)
   obtain ⟨σ8,H8,I8,w8⟩:=h8
   exact wpAny_pure ⟨rfl,again I8 w8⟩
def tTwo (wi:TI)(g:TG)(tc:TT)(tb:TB):TB:=fun σ H Q=>wi σ H fun J H1=>qkO J g tc tb σ H1 Q
theorem qm9 {X:Cx}{elt tg iter tg2 iter2:Expr}{ifs ifs2:List Expr}{scope:Scope}{pos:Pos}{p:Addr}{wi:TI}{g:TG}{tc:TT}{te:TE}(hc:X.calm=true)(hxe:∀ e s,X.xe e s->False)(hi:PI X tg2 iter2 wi)(hg:PG X tg2 g)(ht:PTs X ifs2 tc)(he:PE X elt te)
  (hs:∀ x,foldedSetIterable iter2 X.env x=pure x):PB X p (twoL (.ListComp elt [⟨tg,iter,ifs,0⟩,⟨tg2,iter2,ifs2,0⟩] scope pos) iter2) (tTwo wi g tc (qlr p te)):=by
 intro pins s σ H Q I h
 unfold twoL
 refine wpAny_bind (thn (hi pins s σ H _ I h) fun v s1 h1=>wpAny_bind (wpAny_standAt (wpAny_bind (wpAny_of_eq (hs v) (wpAny_bind (wpAny_holding (thn h1 fun itv s2 h2=>?_)))))))
 obtain ⟨it,fp,tn,J,H2,e,I2,T,st2,f2,h3⟩:=h2
 subst e
 refine wpAny_bind (wpAny_runOwn ?_)
 have loop:codeAny (model X.prog X.w) X.A (.compLoop (.ListComp elt [⟨tg,iter,ifs,0⟩,⟨tg2,iter2,ifs2,0⟩] scope pos) 1 (.ref it) (.ref p) X.env) (fun r s'=>match r with | .ok f=>wpAny (model X.prog X.w) X.A (pure ()) (fun _ s'=>∃ σ' H',Inv X pins σ' H' s'/\Q σ' H') X.xe s' | .error e=>cameBackBy (model X.prog X.w) X.A X.env X.xe e s') s2 :=
  qiO (qhU _ _ _ _ _ _ _ _ _ _ _ _) hc hxe T hg ht (qlQ he) I2 st2 f2 h3 fun s' σ' H' I' q'=>wpAny_pure ⟨σ',H',I',q'⟩
 exact qjT (g:=⟨tg2,iter2,ifs2,0⟩) rfl rfl loop rfl rfl rfl (T.self X.A 0 _ _ _ st2 loop) fun _=>rfl
def qkR (σ0:St->St)(wi:TI)(g:TG)(tc:TT)(wi2:TI)(g2:TG)(tc2:TT)(te:TE):TE:=fun σ H Q=>wi σ H fun J H1=>∀ p,H1 p=none->qkO J g tc (tTwo wi2 g2 tc2 (qlr p te)) (σ0 σ) (upd H1 p (.lst [])) fun _ H'=>Q (.ref p) H'
theorem qhH {X:Cx}{elt tg iter tg2 iter2:Expr}{ifs ifs2:List Expr}{scope:Scope}{pos pos2:Pos}{wi wi2:TI}{g g2:TG}{tc tc2:TT}{te:TE}{N:List Str}{σ0:St->St}{pins:List (Addr × Obj)}{s:Shared}{σ:St}{H:Hp}{Q:VK}{use:Option (Value->Sem Unit)}{QQ:Value->Shared->Prop}
  (hc:X.calm=true) (hxe:∀ e s,X.xe e s->False) (hcell:∀ y∈scope.names,y.2 ≠ .cell) (hkind:scope.kind = .function) (hnames:∀ y∈scope.names,y.2 = .local->scope.names.lookup y.1=some .local)
  (hfr:∀ y∈scope.names,y.2 = .free->X.env.kindOf y.1=some .cell\/X.env.kindOf y.1=some .free) (hσ:Sees X scope N σ0)
  (hi:PI X tg iter wi)
  (hg:∀ cl C s H ex,PG (qat X scope N cl C s H ex) tg g) (ht:∀ cl C s H ex,PTs (qat X scope N cl C s H ex) ifs tc) (hi2:∀ cl C s H ex,PI (qat X scope N cl C s H ex) tg2 iter2 wi2) (hg2:∀ cl C s H ex,PG (qat X scope N cl C s H ex) tg2 g2) (ht2:∀ cl C s H ex,PTs (qat X scope N cl C s H ex) ifs2 tc2) (he:∀ cl C s H ex,PE (qat X scope N cl C s H ex) elt te)
  (hs:∀ x,foldedSetIterable iter X.env x=pure x) (hs2:∀ env x,foldedSetIterable iter2 env x=pure x) (I:Inv X pins σ H s) (h:qkR σ0 wi g tc wi2 g2 tc2 te σ H Q)
  (hend:∀ (p C:Addr) (H':Hp) (s':Shared) (m:Str->Option Value) (f:Flow),Inv X pins σ H' s'->FpOk X pins H' C->s'.heap.Ns C m->(∀ h',Heap.SameBut C s'.heap h'->Inv X pins σ H' { s' with heap:=h' })->Q (.ref p) H' ->
    compPost (model X.prog X.w) X.A X.xe use QQ (.ref p) C (.ok f) s') :
  wpAny (model X.prog X.w) X.A (comprehension (.ListComp elt [⟨tg,iter,ifs,0⟩,⟨tg2,iter2,ifs2,0⟩] scope pos) scope X.env pos2 (newList []) false (eval iter X.env) use) QQ X.xe s:=by
 obtain ⟨cl,hclos,hcl1,hcl2⟩:=qcN (env:=X.env) (scope:=scope) fun y hy hf=>I.ok.has y.1 (hfr y hy hf)
 refine wpAny_comprehension_free (use:=use) rfl hs hclos hkind hnames (thn (hi pins s σ H _ I h) fun v s1 h1=>thn h1 fun itv s2 h2=>?_)
 obtain ⟨it,fp,tn,J,H2,e,I2,T,st2,f2,h3⟩:=h2
 subst e
 have hpn:H2 s2.heap.objs.size=none:=I2.hok.fresh (Nat.le_refl _)
 have h4:=h3 _ hpn
 refine wpAny_newObj_type ?_
 generalize hp:s2.heap.objs.size=p at *
 have I3:Inv X pins σ (upd H2 p (.lst [])) { s2 with heap:=s2.heap.push { cls := .type "list",dict:=none,data := .seq ([]:List Value).toArray } }:=by
  refine I2.laid (a:=p) (o := .lst []) (t':=s2.toks) (fun b u q=>Heap.get?_push_of_some _ q) (Nat.le_of_eq hp) ⟨Nat.zero_le _,[],0,.nil,?_⟩
  rw [<- hp]
  exact Heap.get?_push_size _ rfl
 have hf3:∀ b∈fp,FpOk X pins (upd H2 p (.lst [])) b:=fun b hb=>by
  obtain ⟨o,ho,_⟩:=T.obj _ _ st2 b hb
  have:b≠p:=by rw [<- hp]; exact Nat.ne_of_lt (Heap.lt_size ho)
  exact ⟨by rw [uE this]; exact (f2 b hb).1,(f2 b hb).2⟩
 generalize hs3:({ s2 with heap:=s2.heap.push { cls := .type "list",dict:=none,data := .seq ([]:List Value).toArray } }:Shared)=s3 at *
 have st3:tn 0 s3.heap:=by rw [<- hs3]; exact T.keep _ _ _ st2 fun b _ o e=>Heap.get?_push_of_some _ e
 generalize hH3:upd H2 p (.lst [])=H3 at *
 refine wpAny_newFunctionEnv hcell (by intro y hy; simp at hy) (fun h1 hns1 hsb1=>?_) hkind
 generalize hC:s3.heap.objs.size=C at *
 have keep:∀ b u,s3.heap.get? b=some u->h1.get? b=some u:=fun b u q =>
  hsb1.extBut b u (by rw [<- hC]; exact Nat.ne_of_lt (Heap.lt_size q)) (Heap.get?_push_of_some _ q)
 have fpC:∀ b∈fp,b≠C:=fun b hb=>by
  obtain ⟨o,ho,_⟩:=T.obj _ _ st3 b hb
  rw [<- hC]; exact Nat.ne_of_lt (Heap.lt_size ho)
 have hCn:H3 C=none:=I3.hok.fresh (Nat.le_of_eq hC)
 have ok':(qat X scope N cl C s3 H3 fp).Ok:=by
  refine ⟨I3.mod,hkind,I3.ok.glob,I3.ok.blt,Nat.le_of_eq hC,fun x y c a b=>I3.ok.inj x y c (hcl1 x c a) (hcl1 y c b),fun x hx=>?_,fun _ _ z=>Bool.noConfusion (show false=true from z),I3.ok.hd,I3.ok.frames,.inl rfl,fun b hb=>⟨fpC b hb,fun x c q=>(hf3 b hb).2.2.2.2.1 x c (hcl1 x c q)⟩,
   I3.bs,Nat.le_trans I3.ok.bsz I3.sz,fun b o e hb=>?_,fun b hb z=>?_,I3.stack,I3.stkFree⟩
  ·have hx':(relabel scope X.env).names.lookup x=some .cell\/(relabel scope X.env).names.lookup x=some .free:=hx
   rcases hx' with z | z
   ·rcases qaK z with y | ⟨_,y⟩
    ·exact absurd rfl (hcell _ y)
    ·exact hcl2 x y
   ·rcases qaK z with y | ⟨y,_⟩
    ·exact hcl2 x y
    ·cases y
  ·rcases (hf3 b hb).2.2.2.1 with z | z
   ·exact I3.ok.noex b o e z
   ·exact absurd (Nat.lt_of_lt_of_le (Heap.lt_size e) (Nat.le_trans I3.ok.bsz z)) (Nat.lt_irrefl _)
  ·rcases List.mem_cons.mp (I3.stkSub b z) with q | q
   ·exact (hf3 b hb).2.1 q
   ·exact (hf3 b hb).2.2.1 q
 have J0:Inv (qat X scope N cl C s3 H3 fp) [] (σ0 σ) H3 { s3 with heap:=h1,toks:=s3.toks + ([]:List (Str × Value)).length }:=by
  refine ⟨ok',rfl,I3.bare,Un.kept keep,⟨_,hns1,fun i x v a b c=>?_⟩,fun x c q=>?_,hCn,fun x c q=>I3.freeC x c (hcl1 x c q),fun q hq=>absurd (show q∈([]:List (Addr × Obj)) from hq) (by simp),I3.hok.kept keep,(hσ σ).1⟩
  ·obtain ⟨hf,j,hj,hv⟩:=(hσ σ).2 i x v a b
   have hm:=qbs hf
   obtain ⟨m,hn,hl⟩:=id I3.loc
   have hk:=hfr _ hm rfl
   have hvis:Vis X.env.scope x:=hk.elim (fun z => .inr (.inl z)) fun z => .inr (.inr z)
   obtain ⟨u,r,lk⟩:=hl j x v hj hv hvis
   refine ⟨u,r,.inr ⟨qaU hf,?_⟩⟩
   obtain ⟨c',hc'⟩:=hcl2 x hm
   refine ⟨c',hc',?_⟩
   have hx:=hcl1 x c' hc'
   rcases lk with ⟨kl,_⟩ | ⟨_,c2,e2,o2,ho2,hd2⟩
   ·rcases hk with z | z <;> rw [kl] at z <;> cases z
   ·rw [hx] at e2
    cases e2
    exact ⟨o2,keep _ _ ho2,hd2⟩
  ·obtain ⟨v,o,ho,hd⟩:=I3.cell x c (hcl1 x c q)
   exact ⟨v,o,keep _ _ ho,hd⟩
 have st4:tn 0 h1:=T.keep _ _ _ st3 fun b _ o e=>keep b o e
 have stat:∀ {H':Hp},(∀ b∈fp,H' b=none)->∀ b∈fp,FpOk (qat X scope N cl C s3 H3 fp) [] H' b:=fun hn b hb =>
  ⟨hn b hb,fpC b hb,fun z=>ok'.exfs b hb z,.inl hb,fun x c q=>(hf3 b hb).2.2.2.2.1 x c (hcl1 x c q),fun q hq=>absurd (show q∈([]:List (Addr × Obj)) from hq) (by simp)⟩
 have back:∀ {σ':St} {H':Hp} {s':Shared} {pl:List (Addr × Obj)},Inv (qat X scope N cl C s3 H3 fp) pl σ' H' s'->∀ h',Heap.SameBut C s'.heap h'->Inv X pins σ H' { s' with heap:=h' }:=fun {σ' H' s' pl} J h' hsb=>by
  have I5:Inv X pins σ H' s':=Inv.call' (ch:=fp) I3 J.os J.base J.hok J.bare fun b hb=>⟨(hf3 b hb).2.2.2.1,(hf3 b hb).2.1,(hf3 b hb).2.2.2.2.1,(hf3 b hb).2.2.2.2.2⟩
  refine Inv.turned (it:=C) (t':=s'.toks) I5 (fun b o hb e=>hsb.extBut b o hb e) J.free (fun z=>?_) (.inr ?_) (fun x c q z=>?_) fun q hq z=>?_
  ·exact absurd (show X.env.locals < C by rw [<- hC]; exact I3.lt) (by rw [z]; exact Nat.lt_irrefl _)
  ·rw [<- hC]; exact I3.sz
  ·obtain ⟨v,o,ho,_⟩:=I3.cell x c q
   have:=Heap.lt_size ho
   rw [z,hC] at this
   exact Nat.lt_irrefl _ this
  ·have:=Heap.lt_size (I3.pin q hq).1
   rw [z,hC] at this
   exact Nat.lt_irrefl _ this
 have ff:∀ b∈fp,FpOk (qat X scope N cl C s3 H3 fp) [] H3 b:=stat fun b hb=>(hf3 b hb).1
 have loop:codeAny (model X.prog X.w) X.A (.compLoop (.ListComp elt [⟨tg,iter,ifs,0⟩,⟨tg2,iter2,ifs2,0⟩] scope pos) 0 (.ref it) (.ref p) (compEnvC scope cl C X.env)) (compPost (model X.prog X.w) X.A X.xe use QQ (.ref p) C) { s3 with heap:=h1,toks:=s3.toks + ([]:List (Str × Value)).length }:=by
  refine qiO (X:=qat X scope N cl C s3 H3 fp) (Q:=fun _ H'=>Q (.ref p) H') (qhV _ _ _ _ _ _ _ _ _ _ _ _) hc hxe T (hg cl C s3 H3 fp) (ht cl C s3 H3 fp) (qm9 hc hxe (hi2 cl C s3 H3 fp) (hg2 cl C s3 H3 fp) (ht2 cl C s3 H3 fp) (he cl C s3 H3 fp) (hs2 _)) J0 st4 ff h4 ?_
  intro s4 σ' H' I4 q
  obtain ⟨m,hn,_⟩:=id I4.loc
  have I5:Inv X pins σ H' s4:=Inv.call' (ch:=fp) I3 I4.os I4.base I4.hok I4.bare fun b hb=>⟨(hf3 b hb).2.2.2.1,(hf3 b hb).2.1,(hf3 b hb).2.2.2.2.1,(hf3 b hb).2.2.2.2.2⟩
  exact hend p C H' s4 m _ I5 (I3.fpOk (Nat.le_of_eq hC) I4.free) hn (fun h' hsb=>back I4 h' hsb) q
 exact codeAny_compStart_list loop (T.self X.A 0 _ _ _ st4 loop)
theorem qgI {X:Cx}{elt tg iter tg2 iter2:Expr}{ifs ifs2:List Expr}{scope:Scope}{pos:Pos}{wi wi2:TI}{g g2:TG}{tc tc2:TT}{te:TE}{N:List Str}{σ0:St->St}
  (hc:X.calm=true) (hxe:∀ e s,X.xe e s->False) (hcell:∀ y∈scope.names,y.2 ≠ .cell) (hkind:scope.kind = .function) (hnames:∀ y∈scope.names,y.2 = .local->scope.names.lookup y.1=some .local)
  (hfr:∀ y∈scope.names,y.2 = .free->X.env.kindOf y.1=some .cell\/X.env.kindOf y.1=some .free) (hσ:Sees X scope N σ0)
  (hi:PI X tg iter wi)
  (hg:∀ cl C s H ex,PG (qat X scope N cl C s H ex) tg g) (ht:∀ cl C s H ex,PTs (qat X scope N cl C s H ex) ifs tc) (hi2:∀ cl C s H ex,PI (qat X scope N cl C s H ex) tg2 iter2 wi2) (hg2:∀ cl C s H ex,PG (qat X scope N cl C s H ex) tg2 g2) (ht2:∀ cl C s H ex,PTs (qat X scope N cl C s H ex) ifs2 tc2) (he:∀ cl C s H ex,PE (qat X scope N cl C s H ex) elt te)
  (hs:∀ x,foldedSetIterable iter X.env x=pure x:=by intro _; rfl) (hs2:∀ env x,foldedSetIterable iter2 env x=pure x:=by intro _ _; rfl):PE X (.ListComp elt [⟨tg,iter,ifs,0⟩,⟨tg2,iter2,ifs2,0⟩] scope pos) (qkR σ0 wi g tc wi2 g2 tc2 te):=by
 intro pins s σ H Q I h
 rw [eval_ListComp]
 refine qhH (use:=none) (QQ:=EP X pins σ Q) hc hxe hcell hkind hnames hfr hσ hi hg ht hi2 hg2 ht2 he hs hs2 I h ?_
 intro p C H' s' m f I5 fC hn back q
 exact ⟨m,hn,fun h' hsb=>⟨.ref p,H',back h' hsb,rfl,q⟩⟩
end L2
namespace L2
open PySem PySem.Spec PyProof.Rows MA
end L2
namespace L2
open PySem PySem.Spec PyProof.Rows MA SeqAt
end L2
namespace PySem
open Sem (wp)
theorem qc0:typeLookup (.type "list") "keys" = pure none:=by rw [typeLookup_type,builtinLookup_eq_fast]; kernel_rfl
theorem qe6 {prog:Program}{w:World}{A:Around}{E:Value->Shared->Prop}{s:Shared}{a:Addr}{o:Obj}{xs:Array Value}{k:Nat}{Q:Option Value->Shared->Prop}
  (hx:s.heap.get? a=some o) (hc:o.cls = .type "list") (hdat:o.data = .seq xs k) (hd:o.dict=none) (hA:A.handled=none)
  (h:∀ h' tk,(∀ b u,s.heap.get? b=some u->h'.get? b=some u)->Q none { s with heap:=h',toks:=tk }) :
  wpAny (model prog w) A (getAttr? (.ref a) "keys") Q E s:=by
 have hmiss:=qc0
 obtain ⟨c,dct,dat,sl⟩:=o
 simp only at hc hdat hd
 subst hc hdat hd
 obtain ⟨hp,g,d,tk,os⟩:=s
 have hT:∀ tk',(⟨hp,g,d,tk',os⟩:Shared).TypeIs (.ref a) "list" := fun _=>⟨_,hx,rfl⟩
 have f1:=sub_AttributeError
 have f3:=F.slot_list_getattribute.lookup
 have f4:=F.slot_list_getattribute.bind (.ref a)
 have f5:=am_list_getattr_none
 unfold getAttr? getAttrBy? getAttrBy
 repeat (any_goals (first | assumption | exact hT _ | ((with_reducible show wpAny _ _ (call (Value.builtin "list.__getattribute__") _ _) _ _ _); refine call_meets F.slot_list_getattribute (hT _) am_entry_list_getattribute (F.args_list_getattribute_2 _ _) (meets_getattribute_miss_list a xs k sl "keys" _ hmiss (by decide) (by size_fits)) ⟨hx,hA,fun h' tk' e hx'=>?_⟩) | wp_step))
 obtain ⟨t',u',he⟩:=hx'.there
 have hTe:(⟨h',g,d,tk',os⟩:Shared).TypeIs (.ref e) "AttributeError" := ⟨_,he,rfl⟩
 show wpAny _ _ (getattributeRaised _ _ _ _ _ _ _) _ _ _
 unfold getattributeRaised
 repeat (any_goals (first | assumption | wp_step))
 exact h _ _ hx'.keeps
namespace F
theorem entry_dict_update_loop:entryFor table "dict.update.loop" = some Builtin.«dict.update.loop»:=entryFor_of_tree (by kernel_rfl)
theorem plain_dict_update_loop:plainId "dict.update.loop" = true:=by decide +kernel
end F
end PySem
namespace L2
open PySem PySem.Spec PyProof.Rows MA
end L2
namespace L2
open PySem PySem.Spec PyProof.Rows
theorem qb5:entryFor table "dict_itemiterator.__iter__" = some Builtin.«dict_keyiterator.__iter__» :=
 entryFor_alias (id' := "dict_keyiterator.__iter__") (by kernel_rfl) rfl (by decide +kernel) (by kernel_rfl)
end L2
namespace L2
open PySem PySem.Builtin PySem.Builtin.ObjectAttr PySem.Spec PyProof.Rows
structure ExcK (K:PySem.W.Frag)(C:Addr):Prop where
 ga:PySem.W.findIn K (.ref C) "__getattribute__" = some (some (.builtin "BaseException.__getattribute__"))
 gh:PySem.W.findIn K (.ref C) "__getattr__" = some none
 cl:PySem.W.findIn K (.ref C) "__class__" = some (some (.builtin "object.__class__"))
 gs:PySem.W.specialIn K (.builtin "object.__class__") "__get__" = some (some (.builtin "getset_descriptor.__get__"))
 tk:PySem.W.takesIn K (.builtin "object.__class__")=some true
 cd:(PySem.W.clsIn K C).isSome=true
 ob:PySem.W.mroIn K C (.type "object")=some true
 be:PySem.W.mroIn K C (.type "BaseException")=some true
def ExcAt (e C:Addr)(h:Heap):Prop:=∃ o,h.get? e=some o/\o.cls = .ref C
section
variable {K:PySem.W.Frag}{e C:Addr}{h:Heap}{M:Model}
theorem ExcAt.type (x:ExcAt e C h):PySem.W.Looks M h (typeOf (.ref e)) (.ref C):=by
 obtain ⟨o,h1,h2⟩:=x
 exact h2 ▸ (PySem.W.Looks.ld h1).andThen .now
theorem qkB (X:K.In h)(z:ExcK K C):PySem.W.Looks M h (find (.ref e) (.ref C) "__class__") (.bind (.builtin "getset_descriptor.__get__") (.builtin "object.__class__")):=by
 have l1:=PySem.W.looks_findIn (M:=M) X z.cl
 have l2:PySem.W.Looks M h (getOf (some (.builtin "object.__class__"))) (some (.builtin "getset_descriptor.__get__")):=PySem.W.looks_specialIn X z.gs
 have l3:=PySem.W.looks_takesIn (M:=M) X z.tk
 have l4:PySem.W.Looks M h (dataDescriptor? (some (.builtin "object.__class__")) (some (.builtin "getset_descriptor.__get__"))) (some (.builtin "getset_descriptor.__get__",.builtin "object.__class__")):=l3.andThen .now
 exact l1.andThen (l2.andThen (l4.andThen (.tag .now)))
end
section
variable {prog:Program}{w:World}{A:Around}{E:Value->Shared->Prop}{s:Shared}{K:PySem.W.Frag}{e C:Addr}
open PySem.W PySem.Builtin.Getset_descriptor in
theorem qhD {R:Result->Shared->Prop}{tp:Value}(X:K.In s.heap)(x:ExcAt e C s.heap)(z:ExcK K C)(q:R (.ok (.ret (.ref C))) s) :
  codeAny (model prog w) A (.call (.builtin "getset_descriptor.__get__") ⟨[.builtin "object.__class__",.ref e,tp],[]⟩) R s:=by
 obtain ⟨hh,gg,dr,tt,os⟩:=s
 have l0:=x.type (M:=model prog w)
 have l1:=looks_mroIn (M:=model prog w) X z.ob
 refine codeAny_call_builtin KF.slot_gs.plain
  KF.entry_gs (KF.slot_gs.check _ _ _ _ _ _ _ _
   KF.type_class (KF.args_gs _ _ _) ?_)
 unfold Builtin.«getset_descriptor.__get__»
  descrGet
 rw [dga_obj]
 refine wpAny_bind (wpAny_pure ?_)
 unfold descrGetter descrCheckInstance
  descrNameAndClass isInstance
 simp only [KF.owner_class]
 repeat lk
 refine ⟨Code.quiet_builtin _
  (by decide +kernel),codeAny_builtin KF.entry_class ?_⟩
 unfold Builtin.«object.__class__»
  shownTypeOf
 repeat lk
 exact q
open PySem.W in
theorem qje {M:Model}{nv:Value}{Q:Unit->Shared->Prop}(X:K.In s.heap)(x:ExcAt e C s.heap)(z:ExcK K C)(q:Q () s) :
  wpAny M A (checkBuiltinCall "BaseException.__getattribute__" ⟨[.ref e,nv],[]⟩) Q E s:=by
 obtain ⟨hh,gg,dr,tt,os⟩:=s
 have l0:=x.type (M:=M)
 have l1:=looks_mroIn (M:=M) X z.be
 have k1:builtinKind "BaseException.__getattribute__" = some .slot:=by decide +kernel
 have k2:splitId "BaseException.__getattribute__" = some ("BaseException", "__getattribute__"):=by decide +kernel
 have k3:=F.args_bexc_ga (.ref e) nv
 simp only [checkBuiltinCall,k1,k2]
 unfold isInstance
 refine wpAny_bind ?_
 repeat lk
 repeat (first | exact q | wp_step)
open PySem.W in
theorem qkC {Q:Option Value->Shared->Prop}(X:K.In s.heap)(x:ExcAt e C s.heap)(z:ExcK K C)(q:Q (some (.ref C)) { s with toks:=s.toks + 1 }) :
  wpAny (model prog w) A (getAttr? (.ref e) "__class__") Q E s:=by
 obtain ⟨hh,gg,dr,tt,os⟩:=s
 have l0:=x.type (M:=model prog w)
 have l1:=looks_findIn (M:=model prog w) X z.ga
 have l2:=looks_findIn (M:=model prog w) X z.gh
 have l3:=qkB (M:=model prog w) (e:=e) X z
 have b1:=F.attr_ValueError.ga.bind (.ref e)
 unfold getAttr? getAttrBy? getAttrBy
 refine wpAny_bind (wpAny_mkText (wpAny_bind (wpAny_attempt (wpAny_holding
  (wpAny_bind (l0.at (wpAny_bind (l1.at ?_))))))))
 have hx2:(Value.builtin "BaseException.__getattribute__" == Value.builtin "object.__getattribute__")=false:=by decide +kernel
 dsimp only
 rw [hx2,Bool.and_false,if_neg Bool.false_ne_true]
 unfold getAttrByItsOwn
 refine wpAny_bind (l2.at ?_)
 refine wpAny_bind (wpAny_attempt (wpAny_holding ?_))
 show wpAny _ _ (boundAndCalled _ _ _) _ _ _
 unfold boundAndCalled
 rw [b1]
 refine wpAny_bind (wpAny_pure ?_)
 refine wpAny_call (codeAny_call_builtin F.attr_ValueError.ga.plain F.entry_bexc_ga (qje X x z ?_))
 unfold Builtin.«object.__getattribute__»
 refine wpAny_bind (wpAny_pure ?_)
 refine wpAny_bind (wpAny_pure ?_)
 refine wpAny_bind (l0.at ?_)
 refine wpAny_bind (l3.at ?_)
 show wpAny _ _ (holding [_] (call _ [_,_,_]) >>= ret) _ _ _
 refine wpAny_bind (wpAny_holding (wpAny_call (qhD X x z ?_)))
 refine wpAny_pure ?_
 show wpAny _ _ (handedOut _) _ _ _
 exact handed_on rfl (wpAny_pure q)
open PySem.W in
theorem qgQ (z:ExcK K C):KitX K (.ref e) (.ref C) (ExcAt e C) where
 ty:=fun _ _ _ x=>x.type
 it:=fun _ _ X _=>by
  obtain ⟨cd,hc⟩:=Option.isSome_iff_exists.mp z.cd
  unfold clsIn at hc
  split at hc
  ·rename_i ho
   intro A' Q' E' s' k q'
   unfold isType loadHead
   refine wpAny_bind (wpAny_loadPart (k _ _ (X _ _ ho)) ?_)
   exact wpAny_pure q'
  ·cases hc
 ne:=fun h tp dd its n sl X htp=>by
  obtain ⟨cd,hc⟩:=Option.isSome_iff_exists.mp z.cd
  refine Bool.eq_false_iff.mpr fun q'=>?_
  have e':C=tp:=Value.ref.inj (beq_iff_eq.mp q')
  subst e'
  unfold clsIn at hc
  split at hc
  ·rename_i ho
   have z':=(X _ _ ho).symm.trans htp
   cases z'
  ·cases hc
 ca:=fun X x q=>qkC X x z q
end
end L2
namespace L2
open PySem PySem.Spec PyProof.Rows
structure FlyB (B:Heap)(a0:Value)(P:Program)(w:World)(outer:List Env)(H:Hp)(s:Shared)(x C:Addr)(H':Hp)(s':Shared):Prop where
 os:s'.os=s.os
 bare:AllBare s'.gens
 un:Un (frs outer) [] H H' s.heap s'.heap
 hok:HOk P w H' s'.heap
 fl:Heap.FlyingW B outer x (.ref C) a0 s'.heap
 tr:∀ b u,H' b=some u->∃ o,B.get? b=some o
 pre:∀ b o,s.heap.get? b=some o->b ∉ frs outer->∃ o',B.get? b=some o'
def Fly (P:Program)(w:World)(outer:List Env)(H:Hp)(s:Shared)(x C:Addr)(H':Hp)(s':Shared):Prop:=∃ B a0,FlyB B a0 P w outer H s x C H' s'
def CX1 (P:Program)(w:World):CXT:=fun outer H s E e s'=>∃ x C H',e = .ref x/\Fly P w outer H s x C H' s'/\E (.ref C) none H'
section
variable {X:Cx}{pins:List (Addr × Obj)}{σ:St}{H H':Hp}{s s':Shared}
theorem qiR {h2 h' B:Heap}(I:Inv X pins σ H s)(hx:X.ex=[])(hst:frs X.stack=X.env.locals :: X.fs)(u:Un (frs X.stack) [] H H' s.heap h2)(kB:B.StaysIn h2)(k':B.StaysIn h')
  (ff:h'.FunFrames B X.outer) (up:h2.UpToSlots h') (pre:∀ b o,s.heap.get? b=some o->b ∉ frs X.stack->∃ o',B.get? b=some o'):Un X.fs [] X.H₀ H' X.s₀.heap h':=by
 have nx:∀ b:Addr,b ∉ X.ex:=fun b z=>by rw [hx] at z; exact absurd z (by simp)
 have nL:∀ b o,X.s₀.heap.get? b=some o->b≠X.env.locals:=fun b o e=>Nat.ne_of_lt (Nat.lt_of_lt_of_le (Heap.lt_size e) I.ok.above)
 have nS:∀ b o,X.s₀.heap.get? b=some o->b ∉ X.fs->b ∉ frs X.stack:=fun b o e hb z=>by
  rw [hst] at z
  exact (List.mem_cons.mp z).elim (nL b o e) hb
 refine ⟨fun b o e n hb _=>?_,fun b o e n hb _=>?_,fun b o e n _=>?_,fun b o e _=>?_,fun b xs q=>u.tups b xs (I.base.tups b xs q),fun b o v q=>u.frzs b o v (I.base.frzs b o v q),fun b ps q=>?_⟩
 ·have e1:=I.base.keep b o e n hb (nx b)
  have n1:=I.base.free b o e n (nx b)
  have e2:=u.keep b o e1 n1 (nS b o e hb) (by simp)
  obtain ⟨o',e3⟩:=pre b o e1 (nS b o e hb)
  have e4:=kB b o' e3
  rw [e2] at e4
  cases e4
  exact k' b o e3
 ·obtain ⟨sl,e1⟩:=I.base.slot b o e n hb (nx b)
  have n1:=I.base.free b o e n (nx b)
  obtain ⟨sl2,e2⟩:=u.slot b _ e1 n1 (by rw [hst]; exact List.mem_cons_of_mem _ hb) (by simp)
  obtain ⟨_,o3,e3,hd⟩:=I.funs.mem hb
  rw [e1] at e3
  cases e3
  obtain ⟨sl3,e4⟩:=up b _ e2 hd
  exact ⟨sl3,e4⟩
 ·obtain ⟨o1,e1⟩:=I.base.there b o e (nx b)
  exact u.free b o1 e1 (I.base.free b o e n (nx b)) (by simp)
 ·obtain ⟨o1,e1⟩:=I.base.there b o e (nx b)
  by_cases hb:b∈X.fs
  ·obtain ⟨_,o2,e2,_⟩:=ff.mem hb
   exact ⟨o2,e2⟩
  ·obtain ⟨o2,e2⟩:=pre b o1 e1 (nS b o e hb)
   exact ⟨o2,k' b o2 e2⟩
 ·obtain ⟨m1,e1⟩:=I.base.tbls b ps q
  obtain ⟨m2,e2⟩:=u.tbls b _ e1
  exact ⟨m1 ++ m2,by rw [e2,Array.append_assoc]⟩
theorem qeu {P:Program}{w:World}{h2 h' B:Heap}(hok:HOk P w H' h2)(kB:B.StaysIn h2)(k':B.StaysIn h')(tr:∀ b u,H' b=some u->∃ o,B.get? b=some o):HOk P w H' h':=fun a o e =>
 (hok a o e).stay (fun b u hb q=>by
  obtain ⟨o',e'⟩:∃ o',B.get? b=some o':=by
   rcases hb with z | z
   ·subst z; exact tr b o e
   ·exact tr b _ z
  have e2:=kB b o' e'
  rw [q] at e2
  cases e2
  exact k' b u e') (fun _ q=>q) fun _ _ q=>q
structure Body (X:Cx):Prop where
 ex:X.ex=[]
 st:X.stack=X.env :: X.outer
 fr:X.env.frame=some X.env.locals
theorem Body.frs (b:Body X):L2.frs X.stack=X.env.locals :: X.fs:=by
 rw [b.st]
 show List.filterMap _ _=_
 rw [List.filterMap_cons,b.fr]
 rfl
theorem qfk {M:Model}{E:XK}{E':Value->Shared->Prop}{x C:Addr}(b:Body X)(I:Inv X pins σ H s)(F:Fly X.prog X.w X.stack H s x C H' s')(hE:E (.ref C) none H') :
  wpAny M X.A (leaving X.env (.ref x)) (fun _ s''=>CX1 X.prog X.w X.outer X.H₀ X.s₀ E (.ref x) s'') E' s':=by
 obtain ⟨B,a0,F⟩:=F
 have fl:=F.fl
 have tr:=F.tr
 have pre:=F.pre
 have fl2:=fl
 rw [b.st] at fl2
 refine wpAny_leaves_onW (by rw [I.ok.frames,b.st]) b.fr fl2 fun h' f' up=>?_
 refine ⟨x,C,H',rfl,⟨B,a0,F.os.trans I.os,F.bare,qiR I b.ex b.frs F.un fl.1 f'.1 f'.2.2.1 up pre,qeu F.hok fl.1 f'.1 tr,f',tr,fun c o e hc=>?_⟩,hE⟩
 obtain ⟨o1,e1⟩:=I.base.there c o e (by rw [b.ex]; simp)
 refine pre c o1 e1 fun z=>?_
 rw [b.frs] at z
 exact (List.mem_cons.mp z).elim (Nat.ne_of_lt (Nat.lt_of_lt_of_le (Heap.lt_size e) I.ok.above)) hc
theorem qhu {M:Model}{E:XK}{E':Value->Shared->Prop}{x C:Addr}{vs:List Value}{h3:Heap}(b:Body X)(I:Inv X pins σ H s)(hm:Heap.MadeExcOf s.heap h3 x (.ref C) vs)(hE:E (.ref C) none H) :
  wpAny M X.A (leaving X.env (.ref x)) (fun _ s''=>CX1 X.prog X.w X.outer X.H₀ X.s₀ E (.ref x) s'') E' { s with heap:=h3 }:=by
 have kB:(PySem.W.hideAll s.heap (frs X.stack)).StaysIn s.heap:=fun c o q=>PySem.W.of_hideAll _ q
 have ff:s.heap.FunFrames (PySem.W.hideAll s.heap (frs X.stack)) (X.env :: X.outer):=by
  have:=I.stack
  rw [b.st] at this ⊢
  exact PySem.W.funFrames_hide this fun env he c hc=>List.mem_filterMap.mpr ⟨env,he,hc⟩
 have inB:∀ c o,s.heap.get? c=some o->c ∉ frs X.stack->(PySem.W.hideAll s.heap (frs X.stack)).get? c=some o:=fun c o e hc=>PySem.W.hideAll_get _ e hc
 have tr:∀ c u,H c=some u->∃ o,(PySem.W.hideAll s.heap (frs X.stack)).get? c=some o:=fun c u q=>by
  have:∃ o,s.heap.get? c=some o:=by
   have z:=I.hok c u q
   cases u with
   | lst xs=>obtain ⟨_,_,_,_,e⟩:=z; exact ⟨_,e⟩
   | tup xs=>obtain ⟨_,_,_,o,e,_⟩:=z; exact ⟨_,e⟩
   | dK kvs=>obtain ⟨_,_,_,_,o,_,_,e,_⟩:=z; exact ⟨_,e⟩
   | dT kvs=>obtain ⟨_,_,_,_,o,_,_,e,_⟩:=z; exact ⟨_,e⟩
   | set S n=>obtain ⟨o,_,_,_,e,_⟩:=z; exact ⟨_,e⟩
   | ins C dx fs=>obtain ⟨_,_,_,e,_⟩:=z; exact ⟨_,e⟩
   | own y=>exact z
   | xd fs=>obtain ⟨_,⟨_,_,_,e,_⟩,_⟩:=z; exact ⟨_,e⟩
   | rng lo hi=>obtain ⟨_,_,_,e⟩:=z; exact ⟨_,e⟩
   | frz ob u=>obtain ⟨e,_⟩:=z; exact ⟨_,e⟩
   | tbl ps=>exact ⟨_,z⟩
   | tab q=>obtain ⟨_,e,_⟩:=z; exact ⟨_,e⟩
   | met f y=>exact ⟨_,z⟩
   | ext φ=>obtain ⟨_,e,_⟩:=z; exact e
  obtain ⟨o,e⟩:=this
  exact ⟨o,inB c o e fun z=>by rw [I.stkFree c z] at q; cases q⟩
 refine wpAny_leaves_madeW (by rw [I.ok.frames,b.st]) b.fr kB ff hm fun h' t f' _ _ up=>?_
 have k3:∀ c o,s.heap.get? c=some o->h3.get? c=some o:=hm.keeps
 have kB3:(PySem.W.hideAll s.heap (frs X.stack)).StaysIn h3:=fun c o q=>k3 c o (kB c o q)
 have hok3:HOk X.prog X.w H h3:=I.hok.kept k3
 refine ⟨x,C,H,rfl,⟨_,_,I.os,I.bare,qiR I b.ex b.frs (Un.kept k3) kB3 f'.1 f'.2.2.1 up fun c o e hc=>⟨o,inB c o e hc⟩,qeu hok3 kB3 f'.1 tr,f',tr,fun c o e hc=>?_⟩,hE⟩
 obtain ⟨o1,e1⟩:=I.base.there c o e (by rw [b.ex]; simp)
 refine ⟨o1,inB c o1 e1 fun z=>?_⟩
 rw [b.frs] at z
 exact (List.mem_cons.mp z).elim (Nat.ne_of_lt (Nat.lt_of_lt_of_le (Heap.lt_size e) I.ok.above)) hc
end
theorem qjD {CX:CXT}{P:Program}{w:World}{K:PySem.W.Frag}{mg:Str->Option Value}{base:Heap}{N:List Str}{qual:Str}{scope:Scope}{f:Addr}{cd:Value}{A:Around}{outer:List Env}{s:Shared}{H:Hp}{E:XK} :
  Body (cxOf CX P w K mg base N qual scope f cd A outer s H E):=⟨rfl,rfl,rfl⟩
def qlk (X:Cx)(E:XK):Prop:=∀ (pins:List (Addr × Obj)) (σ:St) (H:Hp) (s:Shared) (h3:Heap) (x C:Addr) (vs:List Value),Inv X pins σ H s->Heap.MadeExcOf s.heap h3 x (.ref C) vs->E (.ref C) none H->X.xe (.ref x) { s with heap:=h3 }
section
variable {P:Program}{w:World}{K:PySem.W.Frag}{mg:Str->Option Value}{base:Heap}{N:List Str}{qual:Str}{scope:Scope}{f:Addr}{cd:Value}{A:Around}{outer:List Env}{s:Shared}{H:Hp}{E:XK}
theorem qfI:qlk (cxOf (CX1 P w) P w K mg base N qual scope f cd A outer s H E) E:=fun pins σ H1 s1 h3 x C vs I hm hE=>qhu qjD I hm hE
theorem qel:qd2 (CX1 P w) (cxOf (CX1 P w) P w K mg base N qual scope f cd A outer s H E) E:=fun pins σ H1 s1 e s' I h=>by
 obtain ⟨x,C,H',rfl,F,hE⟩:=h
 exact qfk qjD I F hE
end
abbrev bmVE:List Value:=[.type "ValueError",.type "Exception",.type "BaseException",.type "object"]
open PySem.W in
theorem qmr {K:Frag}{h:Heap}{C:Addr}{bmB:List Value}{ni:String}(X:K.In h)(z:excIn K C bmB ni=true) :
  ∃ bm N nm qn bs hd sn sub ab col dd k0 k1 k2 k3 k5 mN,h.get? C=some (excClassObj nm qn C N bs bm hd sn sub ab col dd k0 k1 k2 k3 k5 ni)/\h.Ns N mN/\mN "__init__" = none/\OwnTail h bmB bm:=by
 unfold excIn at z
 split at z
 ·rename_i dd cd sl ho
  split at z
  ·rename_i C' bm k0 k1 k2 k3 n k5 hm hs
   simp only [Bool.and_eq_true,beq_iff_eq,Bool.not_eq_true'] at z
   obtain ⟨⟨⟨⟨⟨z1,z2⟩,z3⟩,z4⟩,z5⟩,z6⟩:=z
   subst z1
   subst z2
   obtain ⟨nm,bs,mro,ns,qn,hd,sn,sub,ab,col,del⟩:=cd
   dsimp only at hm z3 z5 z6
   subst hm
   subst z3
   have e:sl=#[k0,k1,k2,k3,some (.builtin n),k5]:=by
    cases sl with
    | mk l=>simp only at hs; rw [hs]
   subst e
   refine ⟨bm,ns,nm,qn,bs,hd,sn,sub,ab,col,dd,k0,k1,k2,k3,k5,h.nsMap ns,X _ _ ho,?_,?_,tail_of_in X z4⟩
   ·exact .of_isNs (isNs_of_in X z5)
   ·exact nsMap_none_of_in X z5 z6
  ·cases z
 ·cases z
def qmJ (C:Addr)(E:XK)(t:TA):TS:=fun _ σ H=>t σ H fun vs H1=>vs.length≤sizeLine/\E (.ref C) none H1
theorem qeg {X:Cx}{E:XK}{C:Addr}{x:Str}{e:Expr}{es:List Expr}{t:TA}{np cpos pos:Pos}(R:qlk X E)(hc:X.calm=true)(z:PySem.W.excIn X.K C bmVE "ValueError.__new__" = true)(hg:Gl X x)(hm:X.mg x=some (.ref C))(ha:PA X (e :: es) t)
  (hd:(x == ("__debug__" : Str))=false:=by decide) (he:starEach (e :: es) X.env=(false,eval e X.env) :: starEach es X.env:=by rfl) (hpl:(backTo cpos (starEach es X.env)).any (·.1)=false:=by rfl) :
  PS X (.Raise (some (.Call (.Name x np) (e :: es) [] cpos)) none pos) (qmJ C E t):=by
 intro pins s σ H D I h
 obtain ⟨bm,N,nm,qn,bs,hdc,sn,sub,ab,col,dd,k0,k1,k2,k3,k5,mN,hC,hN,hni,T⟩:=qmr I.mod.kin z
 refine wpAny_Raise_call_subT (C:=C) (nm:=nm) (q:=qn) (N:=N) (bs:=bs) (bm:=bm) (hdct:=hdc) (sn:=sn) (sub:=sub) (ab:=ab) (col:=col) (dd:=dd) (k0:=k0) (k1:=k1) (k2:=k2) (k3:=k3) (k5:=k5)
  F.excBase_ValueError (mN:=mN) (T.hasType F.excBase_ValueError.hasBase) (I.ok.hd hc) ?_ hni (qdp I hg hm ⟨rfl,?_⟩ hd)
 ·rw [he]
  show (false || (backTo cpos (starEach es X.env)).any (·.1))=false
  rw [hpl]
  rfl
 ·have h1:=ha cpos pins s σ H _ I h
  rw [he] at h1 ⊢
  exact Calls.evalArgs_plain (thn h1 fun us s2 ⟨vs,H2,I2,r,hz,hE⟩=>⟨rfl,by rw [<- r.length]; exact hz,I2.bk _ _ hC,hN.keeps I2.bk,T.keeps I2.bk,fun h' x' hm'=>R pins σ H2 s2 h' x' C us I2 hm' hE⟩)
structure Cal1 (P:Program)(w:World)(K:PySem.W.Frag)(mg:Str->Option Value)(base:Heap)(x:Str)(ps:List Str)(k:Nat)(sp:Sp):Prop where
 ex:∃ f fd,FnOk P w K mg base (CX1 P w) k f fd ps sp/\mg x=some (.ref f)/\PySem.W.keepIn K (.ref f)=true/\Binds K fd ps []
section
variable {P:Program}{w:World}{K:PySem.W.Frag}{mg:Str->Option Value}{base:Heap}{x:Str}{ps:List Str}{k:Nat}{sp:Sp}
theorem FunAt.cal1 {N:List Str}{st:Stmt}(F:FunAt K mg x ps st)(S:qai N ps (qae st))(len:∀ vs H Q E,sp vs H Q E->vs.length=ps.length)
  (hbody:∀ (f:Addr) (cdv:Value) (A:Around) (outer:List Env) (s:Shared) (H:Hp) (vs:List V) (Q:VK) (E:XK),Room k (A.deeper (envOfC x (qae st) s.heap.objs.size f cdv))->sp vs H Q E ->
    ∃ t,PSs (cxOf (CX1 P w) P w K mg base N x (qae st) f cdv A outer s H E) (qbb st) t/\t { nx:=fun _ H'=>Q .non H',rt:=Q } (start N vs) H):Cal1 P w K mg base x ps (k + 1) sp:=by
 obtain ⟨f,fd,F1,m,b⟩:=F.ex
 refine ⟨f,fd,?_,m,F1.kp,b⟩
 obtain ⟨oc,od,kV,doc,pm,an,cdv,ct,osl,rfl,lk,hcd⟩:=F1.ex
 exact qmp lk hcd S len fun A outer s H vs Q E hr hsp=>hbody f cdv A outer s H vs Q E hr hsp
end
theorem cc1 {X:Cx}{x:Str}{ps:List Str}{k:Nat}{sp:Sp}{e:Expr}{es:List Expr}{t:TA}{p pos:Pos}{E:XK}(hx:qd2 (CX1 X.prog X.w) X E)(c:Cal1 X.prog X.w X.K X.mg X.base x ps k sp)(hr:Room k X.A)(ha:PA X (e :: es) t)(hg:Gl X x:=by rfl)(hd:(x == ("__debug__" : Str))=false:=by decide)
  (hs:starEach (e :: es) X.env=(false,eval e X.env) :: starEach es X.env:=by rfl) (hp:(backTo pos (starEach es X.env)).any (·.1)=false:=by rfl):PE X (.Call (.Name x p) (e :: es) [] pos) (qlt sp [] E t):=by
 obtain ⟨f,fd,F,m,kp,b⟩:=c.ex
 exact qiu F hr hg m kp b .nil hx ha hd hs hp
section
variable {P:Program}{w:World}{outer:List Env}{H H':Hp}{s s':Shared}{x C:Addr}{B:Heap}{a0:Value}
theorem FlyB.move {h5:Heap}(F:FlyB B a0 P w outer H s x C H' s')(ff:s.heap.FunFrames B outer)(f':Heap.FlyingW B outer x (.ref C) a0 h5)(up:s'.heap.UpToSlots h5):FlyB B a0 P w outer H s x C H' { s' with heap:=h5 }:=by
 refine ⟨F.os,F.bare,⟨fun b o e n hb _=>?_,fun b o e n hb _=>?_,F.un.free,fun b o e _=>?_,F.un.tups,F.un.frzs,F.un.tbls⟩,qeu F.hok F.fl.1 f'.1 F.tr,f',F.tr,F.pre⟩
 ·have e2:=F.un.keep b o e n hb (by simp)
  obtain ⟨o',e3⟩:=F.pre b o e hb
  have e4:=F.fl.1 b o' e3
  rw [e2] at e4
  cases e4
  exact f'.1 b o e3
 ·obtain ⟨sl,e2⟩:=F.un.slot b o e n hb (by simp)
  obtain ⟨_,o3,e3,hd⟩:=ff.mem hb
  rw [e] at e3
  cases e3
  obtain ⟨sl3,e4⟩:=up b _ e2 hd
  exact ⟨sl3,e4⟩
 ·by_cases hb:b∈frs outer
  ·obtain ⟨_,o2,e2,_⟩:=f'.2.2.1.mem hb
   exact ⟨o2,e2⟩
  ·obtain ⟨o2,e2⟩:=F.pre b o e hb
   exact ⟨o2,f'.1 b o2 e2⟩
theorem FlyB.ne (F:FlyB B a0 P w outer H s x C H' s'){b:Addr}{u:HO}(e:H' b=some u):b≠x:=fun z=>by
 obtain ⟨o,e'⟩:=F.tr b u e
 rw [z,F.fl.2.1] at e'
 cases e'
theorem FlyB.at (F:FlyB B a0 P w outer H s x C H' s'):ExcAt x C s'.heap:=by
 obtain ⟨o,e,c⟩:=F.fl.there
 exact ⟨o,e,c⟩
abbrev excO (x C:Addr):HO := .ext (ExcAt x C)
theorem qms {h:Heap}(z:ExcAt x C h):qaR P w H h x (excO x C):=by
 obtain ⟨o,e,c⟩:=z
 refine ⟨⟨o,e,c⟩,⟨o,e⟩,fun h1 h2 ⟨o1,e1,c1⟩ k=>⟨o1,k o1 e1,c1⟩⟩
theorem FlyB.fresh (F:FlyB B a0 P w outer H s x C H' s'):s.heap.get? x=none:=by
 cases e:s.heap.get? x with
 | none=>rfl
 | some o =>
  by_cases hb:x∈frs outer
  ·obtain ⟨_,o2,e2,hd⟩:=F.fl.2.2.1.mem hb
   obtain ⟨o3,vs,e3,_,hd3,_⟩:=F.fl.first
   rw [e2] at e3
   cases e3
   exact absurd hd3 (hd vs)
  ·obtain ⟨o',e'⟩:=F.pre x o e hb
   rw [F.fl.2.1] at e'
   cases e'
theorem FlyB.free (F:FlyB B a0 P w outer H s x C H' s'):H' x=none:=by
 cases e:H' x with
 | none=>rfl
 | some u=>exact absurd rfl (F.ne e)
theorem FlyB.un2 (F:FlyB B a0 P w outer H s x C H' s'):Un (frs outer) [] H (upd H' x (excO x C)) s.heap s'.heap where
 keep:=F.un.keep
 slot:=F.un.slot
 free:=fun b o e n he=>by
  rw [uE fun z=>by rw [z,F.fresh] at e; cases e]
  exact F.un.free b o e n he
 there:=F.un.there
 tups:=fun b xs q=>by rw [uE (F.ne (F.un.tups b xs q))]; exact F.un.tups b xs q
 frzs:=fun b o u q=>by rw [uE (F.ne (F.un.frzs b o u q))]; exact F.un.frzs b o u q
 tbls:=fun b ps q=>by
  obtain ⟨m,e⟩:=F.un.tbls b ps q
  exact ⟨m,by rw [uE (F.ne e)]; exact e⟩
theorem FlyB.hok2 (F:FlyB B a0 P w outer H s x C H' s'):HOk P w (upd H' x (excO x C)) s'.heap:=fun b u q=>by
 by_cases hb:b=x
 ·subst hb
  rw [uS] at q
  cases q
  exact qms F.at
 ·rw [uE hb] at q
  exact (F.hok b u q).stay (fun _ _ _ z=>z) (fun c z=>by rw [uE (F.ne z)]; exact z) (fun c xs z=>by rw [uE (F.ne z)]; exact z) fun c ob z=>by rw [uE (F.ne z)]; exact z
end
section
variable {X:Cx}{pins:List (Addr × Obj)}{σ:St}{H H':Hp}{s s':Shared}{x C:Addr}{B:Heap}{a0:Value}
theorem FlyB.inv (I:Inv X pins σ H s)(F:FlyB B a0 X.prog X.w X.stack H s x C H' s'):Inv X pins σ H' s':=I.call' F.os F.un F.hok F.bare fun b z=>absurd z (by simp)
theorem FlyB.land (I:Inv X pins σ H s)(F:FlyB B a0 X.prog X.w X.stack H s x C H' s'):Inv X pins σ (upd H' x (excO x C)) s':=I.call' F.os F.un2 F.hok2 F.bare fun b z=>absurd z (by simp)
abbrev Cx.mark (X:Cx)(x:Addr):Cx:={ X with A:=X.A.mark (some (.ref x)),calm:=false,xe:=fun _ _=>False }
theorem Inv.mark (I:Inv X pins σ H s)(x:Addr):Inv (X.mark x) pins σ H s :=
 ⟨⟨I.ok.mod,I.ok.kind,I.ok.glob,I.ok.blt,I.ok.above,I.ok.inj,I.ok.has,I.ok.cab,(fun z=>Bool.noConfusion z),I.ok.frames,I.ok.stk,I.ok.exf,I.ok.bs,I.ok.bsz,I.ok.noex,I.ok.exfs,I.ok.funs,I.ok.frf⟩,I.os,I.bare,I.base,I.loc,I.cell,I.free,I.freeC,I.pin,I.hok,I.len⟩
theorem Inv.unmark (K:X.Ok)(I:Inv (X.mark x) pins σ H s):Inv X pins σ H s:=⟨K,I.os,I.bare,I.base,I.loc,I.cell,I.free,I.freeC,I.pin,I.hok,I.len⟩
theorem qcf {M:Model}{A:Around}{E:Value->Shared->Prop}{i:Nat}{n:Str}{pos:Pos}{Q:Unit->Shared->Prop}(I:Inv X pins σ H s)(hN:X.N.Nodup)(hi:X.N[i]?=some n)(hl:X.env.scope.names.lookup n=some .local)
  (q:∀ s',Inv X pins (σ.set i none) H s'->Q () s'):wpAny M A (do bindName X.env n .none; unbindBehindTheSuite X.env n pos) Q E s:=by
 obtain ⟨m,hn,hlk⟩:=id I.loc
 have hcls:(X.env.scope.kind == .class || (X.env.scope.kind == .module && X.env.locals != X.env.globals))=false:=by rw [I.ok.kind]; rfl
 refine wpAny_nameGoes_keeps hl hn hcls fun h' v hn' hs=>?_
 obtain ⟨oL,_,_,hoL,_⟩:=id hn
 have low:∀ b o,X.s₀.heap.get? b=some o->b≠X.env.locals:=fun b o e=>Nat.ne_of_lt (Nat.lt_of_lt_of_le (Heap.lt_size e) I.ok.above)
 refine q _ ⟨I.ok,I.os,I.bare,⟨fun b o e n' hb hx=>?_,fun b o e n' hb hx=>?_,I.base.free,fun b o e hx=>?_,I.base.tups,I.base.frzs,I.base.tbls⟩,⟨_,hn',fun j y v' e1 e2 e3=>?_⟩,fun y c e=>?_,I.free,I.freeC,fun p hp=>?_,fun b ob e=>?_,by simpa using I.len⟩
 ·exact (hs.2 b (low b o e)).trans (I.base.keep b o e n' hb hx)
 ·obtain ⟨sl,e1⟩:=I.base.slot b o e n' hb hx
  exact ⟨sl,(hs.2 b (low b o e)).trans e1⟩
 ·obtain ⟨o',e1⟩:=I.base.there b o e hx
  exact ⟨o',(hs.2 b (low b o e)).trans e1⟩
 ·by_cases hj:j=i
  ·subst hj
   have:j < σ.length:=by rw [I.len]; exact (List.getElem?_eq_some_iff.mp hi).1
   rw [List.getElem?_set_self this] at e2
   cases e2
  ·rw [List.getElem?_set_ne (Ne.symm hj)] at e2
   obtain ⟨u',r',lk⟩:=hlk j y v' e1 e2 e3
   refine ⟨u',r',?_⟩
   rcases lk with ⟨k,e⟩ | ⟨k,c,e,z⟩
   ·refine .inl ⟨k,?_⟩
    have:y≠n:=fun e=>hj (qer hN e1 (e ▸ hi))
    show (if y=n then v else m y)=some u'
    rw [if_neg this]
    exact e
   ·exact .inr ⟨k,c,e,z.sameBut hs (I.cne y c e)⟩
 ·obtain ⟨w',z⟩:=I.cell y c e
  exact ⟨w',z.sameBut hs (I.cne y c e)⟩
 ·obtain ⟨e,n',ne,nf,d⟩:=I.pin p hp
  exact ⟨(hs.2 p.1 ne).trans e,n',ne,nf,d⟩
 ·refine (I.hok b ob e).stay (fun c w' hc q=>(hs.2 c ?_).trans q) (fun _ q=>q) fun _ _ q=>q
  rintro rfl
  rcases hc with z | z
  ·subst z; rw [I.free] at e; cases e
  ·rw [I.free] at z; cases z
end
def FX (X:Cx)(pins:List (Addr × Obj))(EX:St->Addr->Hp->Prop)(e:Value)(s':Shared):Prop :=
 ∃ x C σ H H' s,e = .ref x/\Inv X pins σ H s/\Fly X.prog X.w X.stack H s x C H' s'/\EX σ C H'
abbrev TEX:=St->Hp->VK->(Addr->Hp->Prop)->Prop
abbrev TSX:=Ends->(St->Addr->Hp->Prop)->St->Hp->Prop
def PEX (X:Cx)(e:Expr)(t:TEX):Prop :=
 ∀ (pins:List (Addr × Obj)) (s:Shared) (σ:St) (H:Hp) (Q:VK) (EX:St->Addr->Hp->Prop),Inv X pins σ H s->t σ H Q (EX σ)->wpAny (model X.prog X.w) X.A (eval e X.env) (EP X pins σ Q) (FX X pins EX) s
def PSX (X:Cx)(st:List Stmt)(t:TSX):Prop :=
 ∀ (pins:List (Addr × Obj)) (s:Shared) (σ:St) (H:Hp) (D:Ends) (EX:St->Addr->Hp->Prop),Inv X pins σ H s->t D EX σ H->wpAny (model X.prog X.w) X.A (execs st X.env) (SP X pins D) (FX X pins EX) s
theorem qjd {M:Model}{A:Around}{E:Value->Shared->Prop}{st:Stmt}{env:Env}{Q:Flow->Shared->Prop}{s:Shared}(h:wpAny M A (exec st env) Q E s):wpAny M A (execs [st] env) Q E s:=by
 refine wpAny_execs_cons (thn h fun f s1 q=>?_)
 cases f with
 | next=>exact wpAny_execs_nil q
 | ret v=>exact q
 | brk=>exact q
 | cont=>exact q
section
variable {X:Cx}
def qmQ (te:TEX):TSX:=fun D EX σ H=>te σ H (fun _ H1=>D.nx σ H1) (EX σ)
theorem qj1 {e:Expr}{te:TEX}{pos:Pos}(he:PEX X e te)(hs:swapsWith e none pos.line X.env=pure false:=by rfl):PSX X [.Expr e pos] (qmQ te):=by
 intro pins s σ H D EX I h
 refine qjd (wpAny_Expr_any (wpAny_mono (he pins s σ H _ EX I h) (fun v s1 ⟨x1,H1,I1,r,q⟩=>?_) fun _ _ z=>z) I.quiet hs)
 exact ⟨_,H1,I1,q⟩
end
def qmI (K:PySem.W.Frag)(cv:Value)(m:Nat)(tb:TSX)(ts:TS):TS:=fun D σ H=>tb D (fun σ' C H'=>PySem.W.exmOne K (.ref C) cv=some true/\∀ p,H' p=none ->
 ts { nx:=fun σ2 H2=>D.nx (σ2.set m none) H2,rt:=D.rt,bk:=fun σ2 H2=>D.bk (σ2.set m none) H2,ct:=fun σ2 H2=>D.ct (σ2.set m none) H2 } (σ'.set m (some (.ref p))) (upd H' p (excO p C))) σ H
theorem qj2 {X:Cx}{body suite:List Stmt}{b0:Stmt}{c n:Str}{np hp pos:Pos}{cv:Value}{m:Nat}{tb:TSX}{ts:TS}(hB:Body X)(hN:X.N.Nodup)(hm:X.N[m]?=some n)(hl:X.env.scope.names.lookup n=some .local)(hg:Gl X c)(hcv:X.mg c=some cv)
  (hb:PSX X body tb) (hs:∀ x,PSs (X.mark x) (b0 :: suite) ts) (hd:(c == ("__debug__" : Str))=false:=by decide) :
  PS X (.Try body [.ExceptHandler (some (.Name c np)) (some n) (b0 :: suite) hp] [] [] pos) (qmI X.K cv m tb ts):=by
 intro pins s σ H D I h
 refine wpAny_Try_except (wpAny_mono (hb pins s σ H D _ I h) (fun f s1 q=>?_) fun e s1 z=>?_)
 ·cases f with
  | next=>exact wpAny_execs_nil q
  | ret v=>exact q
  | brk=>exact q
  | cont=>exact q
 ·obtain ⟨x,C,σ',H1,H',s0,rfl,I0,⟨B,a0,F⟩,hk,hq⟩:=z
  have stk:s0.heap.FunFrames B X.stack:=by
   have h1:=I0.stack
   have all:∀ l:List Env,(∀ b∈frs l,b∈frs X.stack)->s0.heap.FunFrames X.base l->s1.heap.FunFrames B l->s0.heap.FunFrames B l:=by
    intro l
    induction l with
    | nil=>intro _ _ _; trivial
    | cons env r ih =>
     intro hs hl hf
     obtain ⟨k1,⟨L,o,f1,_,ho,hd1⟩,hr⟩:=hl
     obtain ⟨_,⟨L2,o2,f2,hn2,_,_⟩,hr2⟩:=hf
     rw [f1] at f2
     cases f2
     exact ⟨k1,⟨L,o,f1,hn2,ho,hd1⟩,ih (fun b hb=>hs b (by unfold frs; rw [List.filterMap_cons,f1]; exact List.mem_cons_of_mem _ hb)) hr hr2⟩
   exact all X.stack (fun _ hb=>hb) h1 F.fl.2.2.1
  have fl:=F.fl
  have fl':=F.fl
  rw [hB.st] at fl'
  refine wpAny_looks_onW (by rw [I.ok.frames,hB.st]) hB.fr fl' fun h4 held4 up4=>wpAny_landsW held4 fun h5 fl5 up5=>?_
  have fl5':=fl5
  rw [<- hB.st] at fl5'
  have F5:=F.move stk fl5' (up4.trans up5)
  have I5:=F5.inv I0
  have Im:=I5.mark x
  refine wpAny_handleBy_cons (codeAny_handlers_test (qdp Im hg hcv ?_ hd)) (by intro q; cases q)
  refine (PySem.W.exm_one Im.kIn F5.at.type hk).here ?_
  refine codeAny_handlers_suite_as (lands_againW fl5' fun h6 fl6 up6=>?_)
  have F6:=F5.move stk fl6 up6
  have I6:=F6.land I0
  refine qcg I6 hN hm (.inl hl) (v := .ref x) rfl (fun s7 I7=>?_) (.inr hl)
  refine wpAny_mono (hs x pins s7 _ _ _ (I7.mark x) (hq x F6.free)) (fun f s8 q=>?_) fun _ _ z=>False.elim z
  cases f with
  | next =>
   obtain ⟨σ8,H8,I8,q8⟩:=q
   exact qcf (I8.unmark I.ok) hN hm hl fun s9 I9=>⟨_,H8,I9,q8⟩
  | ret v =>
   obtain ⟨v8,σ8,H8,I8,r8,q8⟩:=q
   exact qcf (I8.unmark I.ok) hN hm hl fun s9 I9=>⟨v8,_,H8,I9,r8,q8⟩
  | brk =>
   obtain ⟨σ8,H8,I8,q8⟩:=q
   exact qcf (I8.unmark I.ok) hN hm hl fun s9 I9=>⟨_,H8,I9,q8⟩
  | cont =>
   obtain ⟨σ8,H8,I8,q8⟩:=q
   exact qcf (I8.unmark I.ok) hN hm hl fun s9 I9=>⟨_,H8,I9,q8⟩
abbrev fz (o:Obj):HO := .frz o (.own 0)
abbrev fc (o:Obj):HO := .frz o (.own 1)
def qa6 (cs:List Addr)(H:Hp):Hp:=fun b=>if b∈cs then none else H b
def frzC (h:Heap)(cs:List Addr)(H:Hp):Hp:=fun b=>if b∈cs then (h.get? b).map fc else H b
def qdz (cs:List Addr)(H H2:Hp):Hp:=fun b=>if b∈cs then H b else H2 b
section
variable {cs:List Addr}{H H' H2:Hp}{h h':Heap}{b:Addr}
theorem qa7 (e:b∈cs):qa6 cs H b=none:=if_pos e
theorem qao (e:b ∉ cs):qa6 cs H b=H b:=if_neg e
theorem qcM {o:Obj}(e:b∈cs)(q:h.get? b=some o):frzC h cs H b=some (fc o):=by unfold frzC; rw [if_pos e,q]; rfl
theorem qaE (e:b ∉ cs):frzC h cs H b=H b:=if_neg e
theorem qc4 (e:b∈cs):qdz cs H H2 b=H b:=if_pos e
theorem qaT (e:b ∉ cs):qdz cs H H2 b=H2 b:=if_neg e
def qb7 (cs:List Addr)(H:Hp)(h:Heap):Prop:=∀ c∈cs,H c=none/\∃ o,h.get? c=some o
def qbB (cs:List Addr)(H:Hp):Prop:=∀ c∈cs,∃ o,H c=some (fc o)
theorem qb7.frz (x:qb7 cs H h):qbB cs (frzC h cs H):=fun c hc=>let ⟨_,o,e⟩:=x c hc; ⟨o,qcM hc e⟩
theorem qcU {u:HO}(x:qb7 cs H h)(e:H b=some u):b ∉ cs:=fun z=>by rw [(x b z).1] at e; cases e
theorem qe2 {u:HO}(x:qbB cs H)(e:H b=some u)(n:∀ o,u≠fc o):b ∉ cs:=fun z=>by
 obtain ⟨o,q⟩:=x b z
 rw [q] at e
 cases e
 exact n o rfl
variable {P:Program}{w:World}{fs:List Addr}
theorem qml (x:qb7 cs H h)(ok:HOk P w H h):HOk P w (frzC h cs H) h:=fun b u q=>by
 by_cases hb:b∈cs
 ·obtain ⟨_,o,e⟩:=x b hb
  rw [qcM hb e] at q
  cases q
  exact ⟨e,o,e⟩
 ·rw [qaE hb] at q
  exact (ok b u q).stay (fun _ _ _ z=>z) (fun c z=>by rw [qaE (qcU x z)]; exact z) (fun c xs z=>by rw [qaE (qcU x z)]; exact z) fun c ob z=>by rw [qaE (qcU x z)]; exact z
theorem qmG (x:qb7 cs H h)(u:Un fs [] (frzC h cs H) H' h h')(ok:HOk P w H' h'):Un fs [] H (qa6 cs H') h h' where
 keep:=fun b o e n hb he=>by
  by_cases hc:b∈cs
  ·have q:=u.frzs b o _ (qcM (H:=H) hc e)
   exact (ok b _ q).1
  ·exact u.keep b o e (by rw [qaE hc]; exact n) hb he
 slot:=fun b o e n hb he=>by
  by_cases hc:b∈cs
  ·have q:=u.frzs b o _ (qcM (H:=H) hc e)
   exact ⟨o.slots,(ok b _ q).1⟩
  ·exact u.slot b o e (by rw [qaE hc]; exact n) hb he
 free:=fun b o e n he=>by
  by_cases hc:b∈cs
  ·exact qa7 hc
  ·rw [qao hc]
   exact u.free b o e (by rw [qaE hc]; exact n) he
 there:=u.there
 tups:=fun b xs q=>by
  have hc:=qcU x q
  rw [qao hc]
  exact u.tups b xs (by rw [qaE hc]; exact q)
 frzs:=fun b o v q=>by
  have hc:=qcU x q
  rw [qao hc]
  exact u.frzs b o v (by rw [qaE hc]; exact q)
 tbls:=fun b ps q=>by
  have hc:=qcU x q
  obtain ⟨m,e⟩:=u.tbls b ps (by rw [qaE hc]; exact q)
  exact ⟨m,by rw [qao hc]; exact e⟩
theorem qg0 (x:qbB cs H')(ok:HOk P w H' h'):HOk P w (qa6 cs H') h':=fun b u q=>by
 by_cases hb:b∈cs
 ·rw [qa7 hb] at q
  cases q
 ·rw [qao hb] at q
  exact (ok b u q).stay (fun _ _ _ z=>z) (fun c z=>by rw [qao (qe2 x z fun _=>by simp)]; exact z) (fun c xs z=>by rw [qao (qe2 x z fun _=>by simp)]; exact z)
   fun c ob z=>by rw [qao (qe2 x z fun _=>by simp)]; exact z
theorem qkL (x:qbB cs H)(u:Un fs [] H H' h h'):qbB cs H':=fun c hc=>let ⟨o,e⟩:=x c hc; ⟨o,u.frzs c o _ e⟩
theorem qhT (x:qbB cs H)(u:Un fs [] (qa6 cs H) H2 h h'):Un fs [] H (qdz cs H H2) h h':=by
 have out:∀ {b:Addr},H b=none->b ∉ cs:=fun {b} n z=>by obtain ⟨o,e⟩:=x b z; rw [n] at e; cases e
 refine ⟨fun b o e n hb he=>u.keep b o e (by rw [qao (out n)]; exact n) hb he,fun b o e n hb he=>u.slot b o e (by rw [qao (out n)]; exact n) hb he,
  fun b o e n he=>by rw [qaT (out n)]; exact u.free b o e (by rw [qao (out n)]; exact n) he,u.there,fun b xs q=>?_,fun b o v q=>?_,fun b ps q=>?_⟩
 ·have hc:=qe2 x q fun _=>by simp
  rw [qaT hc]
  exact u.tups b xs (by rw [qao hc]; exact q)
 ·by_cases hc:b∈cs
  ·rw [qc4 hc]; exact q
  ·rw [qaT hc]; exact u.frzs b o v (by rw [qao hc]; exact q)
 ·have hc:=qe2 x q fun _=>by simp
  obtain ⟨m,e⟩:=u.tbls b ps (by rw [qao hc]; exact q)
  exact ⟨m,by rw [qaT hc]; exact e⟩
theorem qg1 (x:qbB cs H)(ok0:HOk P w H h)(nf:∀ c∈cs,c ∉ fs)(u:Un fs [] (qa6 cs H) H2 h h')(ok:HOk P w H2 h'):HOk P w (qdz cs H H2) h':=by
 have no:∀ c∈cs,H2 c=none:=fun c hc=>by
  obtain ⟨o,e⟩:=x c hc
  exact u.free c o (ok0 c _ e).1 (qa7 hc) (by simp)
 have out:∀ {b:Addr} {v:HO},H2 b=some v->b ∉ cs:=fun {b v} e z=>by rw [no b z] at e; cases e
 intro b v q
 by_cases hc:b∈cs
 ·rw [qc4 hc] at q
  obtain ⟨o,e⟩:=x b hc
  rw [q] at e
  cases e
  have e2:=u.keep b o (ok0 b _ q).1 (qa7 hc) (nf b hc) (by simp)
  exact ⟨e2,o,e2⟩
 ·rw [qaT hc] at q
  exact (ok b v q).stay (fun _ _ _ z=>z) (fun c z=>by rw [qaT (out z)]; exact z) (fun c xs z=>by rw [qaT (out z)]; exact z) fun c ob z=>by rw [qaT (out z)]; exact z
end
theorem qmx {P:Program}{w:World}{outer:List Env}{cs:List Addr}{H:Hp}{s s':Shared}{Q Q':VK}{E E':XK}{r:Result}(x:qbB cs H)(ok0:HOk P w H s.heap)(nf:∀ c∈cs,c ∉ frs outer)
  (hQ:∀ v H2,(∀ c∈cs,H2 c=none)->Q v H2->Q' v (qdz cs H H2)) (hE:∀ c d H2,(∀ c∈cs,H2 c=none)->E c d H2->E' c d (qdz cs H H2))
  (h:CR (CX1 P w) outer P w (qa6 cs H) s Q E r s'):CR (CX1 P w) outer P w H s Q' E' r s':=by
 have no:∀ {H2:Hp},Un (frs outer) [] (qa6 cs H) H2 s.heap s'.heap->∀ c∈cs,H2 c=none:=fun u c hc=>by
  obtain ⟨o,e⟩:=x c hc
  exact u.free c o (ok0 c _ e).1 (qa7 hc) (by simp)
 cases r with
 | error e =>
  obtain ⟨y,C,H2,rfl,⟨B,a0,F⟩,hx⟩:=h
  refine ⟨y,C,qdz cs H H2,rfl,⟨B,a0,F.os,F.bare,qhT x F.un,qg1 x ok0 nf F.un F.hok,F.fl,fun b u q=>?_,F.pre⟩,hE _ _ _ (no F.un) hx⟩
  by_cases hc:b∈cs
  ·obtain ⟨o,e⟩:=x b hc
   exact F.pre b o (ok0 b _ e).1 (nf b hc)
  ·rw [qaT hc] at q
   exact F.tr b u q
 | ok fl =>
  cases fl with
  | ret u =>
   obtain ⟨v,H2,os,bare,un,hok,rv,q⟩:=h
   exact ⟨v,qdz cs H H2,os,bare,qhT x un,qg1 x ok0 nf un hok,rv,hQ v H2 (no un) q⟩
  | next=>exact h
  | brk=>exact h
  | cont=>exact h
abbrev Sp0:=Hp->VK->XK->Prop
def ClOk (P:Program)(w:World)(K:PySem.W.Frag)(mg:Str->Option Value)(base:Heap)(k:Nat)(f:Addr)(sp:Sp0):Prop :=
 ∀ (A:Around) (outer:List Env) (s:Shared) (H:Hp) (Q:VK) (E:XK),Room k A->Env0 P w K mg base A outer s H->sp H Q E->codeAny (model P w) A (.call (.ref f) ⟨[],[]⟩) (CR (CX1 P w) outer P w H s Q E) s
def qhG (P:Program)(w:World)(K:PySem.W.Frag)(mg:Str->Option Value)(base:Heap)(N:List Str)(qual:Str)(scope:Scope)(cl:List (Str × Addr))(f:Addr)(cd:Value)(A:Around)(outer:List Env)(s:Shared)(H:Hp)(E:XK):Cx where
 prog:=P
 w:=w
 K:=K
 mg:=mg
 base:=base
 A:=A.deeper (PySem.W.envX qual scope s.heap.objs.size f cd cl)
 N:=N
 s₀:=s
 H₀:=H
 env:=PySem.W.envX qual scope s.heap.objs.size f cd cl
 outer:=outer
 stack:=PySem.W.envX qual scope s.heap.objs.size f cd cl :: outer
 ex:=[]
 calm:=true
 fn:=fun _=>false
 pn:=[]
 xe:=fun e s'=>wpAny (model P w) (A.deeper (PySem.W.envX qual scope s.heap.objs.size f cd cl)) (leaving (PySem.W.envX qual scope s.heap.objs.size f cd cl) e) (fun _ s''=>CX1 P w outer H s E e s'') (fun e' s''=>CX1 P w outer H s E e' s'') s'
section
variable {P:Program}{w:World}{K:PySem.W.Frag}{mg:Str->Option Value}{base:Heap}{N:List Str}{qual:Str}{scope:Scope}{cl:List (Str × Addr)}{f c':Addr}{cd:Value}
theorem qkK {A:Around}{outer:List Env}{s:Shared}{H:Hp}{E:XK}:Body (qhG P w K mg base N qual scope cl f cd A outer s H E):=⟨rfl,rfl,rfl⟩
theorem qek {A:Around}{outer:List Env}{s:Shared}{H:Hp}{E:XK}:qd2 (CX1 P w) (qhG P w K mg base N qual scope cl f cd A outer s H E) E:=fun pins σ H1 s1 e s' I h=>by
 obtain ⟨x,C,H',rfl,F,hE⟩:=h
 exact qfk qkK I F hE
def qly (cs:List Addr)(Hc:Hp)(f c':Addr)(te:XK->TE)(σl:St):Sp0:=fun H' Q' E'=>H' f=Hc f/\H' c'=Hc c'/\(∀ c∈cs,H' c=Hc c)/\∃ Qu Eu,te Eu σl (qa6 cs H') Qu /\
 (∀ v H2,(∀ c∈cs,H2 c=none)->Qu v H2->Q' v (qdz cs H' H2))/\(∀ c d H2,(∀ c∈cs,H2 c=none)->Eu c d H2->E' c d (qdz cs H' H2))
theorem ql8 {k:Nat}{params:Arguments}{body:Expr}{pm ctv:Value}{cs:List Addr}{Hc:Hp}{σl:St}{oc:Obj}{vs:Array Value}{t:Tok}{te:XK->TE}
  (hkind:scope.kind = .function) (hco:scope.isCoroutine=false) (hgen:scope.isGenerator=false) (hcell:∀ y∈scope.names,y.2 ≠ .cell)
  (hcl1:∀ x c,cl.lookup x=some c->c∈cs) (inj:∀ x y c,cl.lookup x=some c->cl.lookup y=some c->x=y) (hcl2:∀ x,(x,NameKind.free)∈scope.names->∃ c,cl.lookup x=some c)
  (len:σl.length=N.length) (vals:∀ (i:Nat) x v,N[i]?=some x->σl[i]?=some (some v)->scope.names.lookup x=some .free/\∃ c o u,cl.lookup x=some c/\Hc c=some (fc o)/\o.data = .cell (some u)/\RelV v u)
  (cells:∀ c∈cs,∃ o v,Hc c=some (fc o)/\o.data = .cell v)
  (hf:Hc f=some (fz (PySem.W.kla_obj "<lambda>" qual params body scope cl pm c' ctv))) (hc:Hc c'=some (fz oc)) (hd:oc.data = .fields vs) (hv:vs[1]?=some (.str qual t))
  (hbind:bindArgs (PySem.W.kla_fn "<lambda>" qual params body scope cl pm (.ref c') ctv) ⟨[],[]⟩=pure [])
  (hbody:∀ (A:Around) (outer:List Env) (s:Shared) (H:Hp) (E:XK),Room k (A.deeper (PySem.W.envX qual scope s.heap.objs.size f (.ref c') cl))->PE (qhG P w K mg base N qual scope cl f (.ref c') A outer s H E) body (te E)) :
  ClOk P w K mg base (k + 1) f (qly cs Hc f c' te σl):=by
 intro A outer s H' Q' E' hr e0 h
 obtain ⟨ef,ec,ecs,Qu,Eu,ht,hQ,hE⟩:=h
 have x:qbB cs H':=fun c hcc=>by
  obtain ⟨o,v,e,_⟩:=cells c hcc
  exact ⟨o,by rw [ecs c hcc]; exact e⟩
 have nf:∀ c∈cs,c ∉ frs outer:=fun c hcc z=>by
  obtain ⟨o,e⟩:=x c hcc
  rw [e0.frf c z] at e
  cases e
 refine codeAny_mono (R:=CR (CX1 P w) outer P w (qa6 cs H') s Qu Eu) ?_ fun r s' h=>qmx x e0.hok nf hQ hE h
 have ho:s.heap.get? f=some (PySem.W.kla_obj "<lambda>" qual params body scope cl pm c' ctv):=(e0.hok f _ (ef.trans hf)).1
 have hoc:s.heap.get? c'=some oc:=(e0.hok c' _ (ec.trans hc)).1
 have nolim:s.heap.NoLimit:=e0.mod.nolimit.keeps fun b o e=>(e0.bs b o e).1
 refine PySem.W.kla_callFunE hr.depth ho rfl hco hgen rfl ⟨c',oc,vs,t,rfl,hoc,hd,hv⟩ ?_
 rw [hbind]
 refine wpAny_pure (wpAny_newFunctionEnv hcell (fun y hy=>absurd hy (by simp)) (fun h1 hns hsb=>⟨nolim.fresh _ hsb,?_⟩) hkind)
 show codeAny _ _ (.expr body (PySem.W.envX qual scope s.heap.objs.size f (.ref c') cl)) _ _
 have keep:∀ b u,s.heap.get? b=some u->h1.get? b=some u:=fun b u q =>
  hsb.extBut b u (Nat.ne_of_lt (Heap.lt_size q)) (Heap.get?_push_of_some _ q)
 have dn:∀ {b:Addr},H' b=none->qa6 cs H' b=none:=fun {b} n=>by
  by_cases hb:b∈cs
  ·exact qa7 hb
  ·rw [qao hb]; exact n
 have okd:HOk P w (qa6 cs H') s.heap:=qg0 x e0.hok
 have noA:∀ b:Addr,b ∉ (qhG P w K mg base N qual scope cl f (.ref c') A outer s (qa6 cs H') Eu).ex:=fun b z=>absurd (show b∈([]:List Addr) from z) (by simp)
 have cellAt:∀ c∈cs,∃ o v,s.heap.get? c=some o/\o.data = .cell v/\Hc c=some (fc o):=fun c hcc=>by
  obtain ⟨o,v,e,d⟩:=cells c hcc
  exact ⟨o,v,(e0.hok c _ ((ecs c hcc).trans e)).1,d,e⟩
 have I:Inv (qhG P w K mg base N qual scope cl f (.ref c') A outer s (qa6 cs H') Eu) [] σl (qa6 cs H') { s with heap:=h1,toks:=s.toks + ([]:List (Str × Value)).length }:=by
  refine ⟨⟨e0.mod,hkind,rfl,rfl,Nat.le_refl _,inj,fun y hy=>?_,fun y c z=>Bool.noConfusion (show false=true from z),fun _=>hr.hd,Around.frames_deeper e0.frames,.inr ⟨rfl,rfl⟩,fun b z=>absurd z (noA b),fun b o e=>⟨(e0.bs b o e).1,dn (e0.bs b o e).2⟩,e0.bsz,fun b _ _=>noA b,fun b z=>absurd z (noA b),e0.funs,fun b hb=>dn (e0.frf b hb)⟩,
   rfl,e0.bare,Un.kept keep,⟨_,hns,fun i y v e1 e2 e3=>?_⟩,fun y c h=>?_,okd.fresh (Nat.le_refl _),fun y c h=>qa7 (hcl1 y c h),fun p hp=>absurd (show p∈([]:List (Addr × Obj)) from hp) (by simp),okd.kept keep,len⟩
  ·have hy:scope.names.lookup y=some .cell\/scope.names.lookup y=some .free:=hy
   rcases hy with hy | hy
   ·exact absurd rfl (hcell _ (PySem.mem_of_lookup hy))
   ·exact hcl2 y (PySem.mem_of_lookup hy)
  ·obtain ⟨l1,c,o,u,l2,l3,l4,l5⟩:=vals i y v e1 e2
   obtain ⟨o2,v2,g1,g2,g3⟩:=cellAt c (hcl1 y c l2)
   rw [l3] at g3
   cases g3
   exact ⟨u,l5,.inr ⟨.inr l1,c,l2,o,keep _ _ g1,l4⟩⟩
  ·obtain ⟨o2,v2,g1,g2,_⟩:=cellAt c (hcl1 y c h)
   exact ⟨v2,o2,keep _ _ g1,g2⟩
 exact PySem.W.kla_codeExpr (wpAny_mono (hbody A outer s (qa6 cs H') Eu (hr.deeper _) [] _ σl (qa6 cs H') Qu I ht) (fun v s' ⟨v',H2,J,r,q⟩=>⟨v',H2,J.os,J.bare,J.base,J.hok,r,q⟩) fun e s' z=>z)
end
structure LamB (mg:Str->Option Value)(base:Heap)(c P:Addr):Prop where
 cd:PySem.W.CodeHd base c P
 bm:∃ bm ob,mg "__builtins__" = some (.ref bm)/\bm≠builtinsNs/\base.get? bm=some ob/\ob.cls = .type "module" /\ ob.dict=some builtinsNs/\ob.data = .plain
theorem qhN {pos:Pos}{a b:Nat}{c cv:Value}:∀ (l:List Value),TriplesOk l->codeAmong pos (l ++ [rawInt a,rawInt b,c])=some cv->codeAmong pos l=some cv\/cv=c:=fun l=>by
 fun_induction TriplesOk l with
 | case1 =>
  intro _ h
  right
  simp only [List.nil_append,rawInt,codeAmong] at h
  split at h
  ·exact (Option.some.inj h).symm
  ·cases h
 | case2 i1 t1 i2 t2 v rest ih =>
  intro ok h
  simp only [List.cons_append,codeAmong] at h ⊢
  split at h
  ·rename_i z
   rw [if_pos z]
   exact .inl h
  ·rename_i z
   rw [if_neg z]
   exact ih ok h
 | case3 l h1 h2=>intro ok; exact ok.elim
theorem qeK {a b:Nat}{c:Value}:∀ (l:List Value),TriplesOk l->TriplesOk (l ++ [rawInt a,rawInt b,c]):=fun l=>by
 fun_induction TriplesOk l with
 | case1=>intro _; exact True.intro
 | case2 i1 t1 i2 t2 v rest ih=>intro ok; exact ih ok
 | case3 l h1 h2=>intro ok; exact ok.elim
section
variable {X:Cx}{pins:List (Addr × Obj)}{σ:St}{H:Hp}{s:Shared}{c P:Addr}{q:Str}{params:Arguments}{body:Expr}{scope:Scope}{pos:Pos}{cl:List (Str × Addr)}
theorem qks {E:Value->Shared->Prop}{M:Model}{A:Around}(L:LamB X.mg X.base c P)(hcode:X.env.code = .ref c)(hq:X.env.qual ++ "<lambda>" = q)(hdef:defaultsOf params X.env=([],[]))(hcl:closureFor scope X.env=pure cl)(I:Inv X pins σ H s)(hP:H P=some (.tab q)) :
  wpAny M A (eval (.Lambda params body scope pos) X.env) (fun v s1=>∃ f c' oc vs t pm ctv H1,v = .ref f/\Inv X pins σ H1 s1/\Same H H1/\H1 f=some (fz (PySem.W.kla_obj "<lambda>" q params body scope cl pm c' ctv))/\H1 c'=some (fz oc)/\oc.data = .fields vs/\vs[1]?=some (.str q t)) E s:=by
 refine PySem.W.kla_eval hdef ?_
 rw [hq]
 obtain ⟨ps,eP,tr,cs⟩:=I.hok P _ hP
 have hgs:s.heap.Ns mainGlobals X.mg:=I.mod.glob.keeps I.bk
 obtain ⟨bm,ob,b1,b2,b3,b4,b5,b6⟩:=L.bm
 have hgP:mainGlobals≠P:=fun z=>by
  obtain ⟨o,es,ep,e,hd,_⟩:=hgs
  rw [z,eP] at e; cases e; cases hd
 have hbP:bm≠P:=fun z=>by
  have e:=I.bk _ _ b3
  rw [z,eP] at e; cases e; cases b4
 have hbG:bm≠mainGlobals:=fun z=>by
  obtain ⟨o,es,ep,e,hd,_⟩:=I.mod.glob
  rw [z,e] at b3; cases b3; rw [hd] at b6; cases b6
 have hB:s.heap.BuiltinsAt X.mg P:=⟨bm,ob,b1,b2,hbG,hbP,I.bk _ _ b3,b4,b5,b6⟩
 cases hf:codeAmong pos ps.toList with
 | some cv =>
  obtain ⟨c',oc,vs,t,rfl,e1,e2,e3⟩:=cs pos cv hf
  refine PySem.W.kla_makeFunctionHit hcl I.ok.glob hgs hcode (L.cd.keeps I.bk) eP tr hf hB fun ctv h' tk hk hsz=>?_
  have hn:H h'.objs.size=none:=I.hok.fresh hsz
  refine ⟨h'.objs.size,c',oc,vs,t,(X.mg "__name__").getD .none,ctv,upd H h'.objs.size (fz _),rfl,I.laid (t':=tk) (fun b u e=>Heap.get?_push_of_some _ (hk b u e)) hsz ⟨Heap.get?_push_size _ rfl,_,Heap.get?_push_size _ rfl⟩,sN hn _,uS,?_,e2,e3⟩
  rw [uE (qab e1 hn)]
  exact e1
 | none =>
  refine PySem.W.kla_makeFunction hcl I.ok.glob hgs hcode (L.cd.keeps I.bk) eP tr hf hgP hB fun c' ctv h' tk hx hge hlt hrec htb=>?_
  obtain ⟨c2,oc,vs,t,e2,hoc,hd,hv⟩:=hrec
  cases e2
  generalize hfo:PySem.W.kla_obj "<lambda>" q params body scope cl ((X.mg "__name__").getD .none) c' ctv=fo
  have hn1:H c'=none:=I.hok.fresh hge
  have hsz:s.heap.objs.size≤h'.objs.size:=Nat.le_of_lt (Nat.lt_of_le_of_lt hge hlt)
  have hfc:h'.objs.size≠c':=Nat.ne_of_gt hlt
  have hn2:upd H c' (fz oc) h'.objs.size=none:=by rw [uE hfc]; exact I.hok.fresh hsz
  have sm:Same H (upd (upd H c' (fz oc)) h'.objs.size (fz fo)):=(sN hn1 _).trans (sN hn2 _)
  have kp:∀ b o,b≠P->s.heap.get? b=some o->(h'.push fo).get? b=some o:=fun b o hb e=>Heap.get?_push_of_some _ (hx b o hb e)
  have nP:∀ b,H b=none->b≠P:=fun b n z=>by rw [z,hP] at n; cases n
  have new:∀ b o,s.heap.get? b=some o->upd (upd H c' (fz oc)) h'.objs.size (fz fo) b=H b:=fun b o e=>by
   have l:=Heap.lt_size e
   rw [uE (Nat.ne_of_lt (Nat.lt_of_lt_of_le l hsz)),uE (Nat.ne_of_lt (Nat.lt_of_lt_of_le l hge))]
  have eP2:(h'.push fo).get? P=some { cls := .none,data := .fields (ps ++ #[rawInt pos.line,rawInt pos.col,.ref c']) }:=Heap.get?_push_of_some _ htb
  have c'P:c'≠P:=fun z=>by rw [z,hP] at hn1; cases hn1
  refine ⟨h'.objs.size,c',oc,vs,t,(X.mg "__name__").getD .none,ctv,upd (upd H c' (fz oc)) h'.objs.size (fz fo),rfl,I.un (h':=h'.push fo) (t':=tk) ⟨fun b o e n _ _=>kp b o (nP b n) e,fun b o e n _ _=>⟨o.slots,kp b o (nP b n) e⟩,fun b o e n _=>by rw [new b o e]; exact n,fun b o e _=>?_,fun b xs z=>sm b _ z,fun b o u z=>sm b _ z,fun b ps z=>⟨#[],by rw [sm b _ z]; simp⟩⟩ fun b u z=>?_,sm,by rw [hfo]; exact uS,by rw [uE (Ne.symm hfc)]; exact uS,hd,hv⟩
  ·by_cases hb:b=P
   ·rw [hb]; exact ⟨_,eP2⟩
   ·exact ⟨o,kp b o hb e⟩
  ·by_cases hb:b=h'.objs.size
   ·rw [hb,uS] at z
    cases z
    rw [hb]
    exact ⟨Heap.get?_push_size _ (by rw [<- hfo]; rfl),_,Heap.get?_push_size _ (by rw [<- hfo]; rfl)⟩
   ·rw [uE hb] at z
    by_cases hc:b=c'
    ·rw [hc,uS] at z
     cases z
     rw [hc]
     exact ⟨Heap.get?_push_of_some _ hoc,_,Heap.get?_push_of_some _ hoc⟩
    ·rw [uE hc] at z
     by_cases hbP':b=P
     ·subst hbP'
      rw [hP] at z
      cases z
      refine ⟨_,eP2,?_,fun pos2 cv h2=>?_⟩
      ·rw [Array.toList_append]
       exact qeK _ tr
      ·rw [Array.toList_append] at h2
       rcases qhN _ tr h2 with h3 | h3
       ·obtain ⟨c3,oc3,vs3,t3,g1,g2,g3⟩:=cs pos2 cv h3
        exact ⟨c3,oc3,vs3,t3,g1,sm _ _ g2,g3⟩
       ·exact ⟨c',oc,vs,t,h3,by rw [uE (Ne.symm hfc)]; exact uS,hd,hv⟩
     ·refine (I.hok b u z).stay (fun d v hdd e=>kp d v ?_ e) (fun d e=>sm _ _ e) (fun d xs e=>sm _ _ e) fun d ob e=>sm _ _ e
      rcases hdd with y | y
      ·rw [y]; exact hbP'
      ·intro y2
       rw [y2,hP] at y
       cases y
end
structure qkP where
 kV:V->Hp->VK->Prop
 kE:Value->Hp->VK->Prop
 comV:∀ (cs:List Addr) (H:Hp) (Q:VK) (v:V),(∀ c∈cs,H c≠none)->kV v (qa6 cs H) Q->kV v H (fun v H=>Q v (qa6 cs H))
 comE:∀ (cs:List Addr) (H:Hp) (Q:VK) (c:Value),(∀ c∈cs,H c≠none)->kE c (qa6 cs H) Q->kE c H (fun v H=>Q v (qa6 cs H))
def qnP (sp:Sp0):Prop:=∀ (H:Hp) (Q Q':VK) (E E':XK),(∀ v H,Q v H->Q' v H)->(∀ c d H,E c d H->E' c d H)->sp H Q E->sp H Q' E'
theorem qkn {cs:List Addr}{Hc:Hp}{f c':Addr}{te:XK->TE}{σl:St}:qnP (qly cs Hc f c' te σl):=by
 intro H Q Q' E E' hQ hE h
 obtain ⟨h1,h2,h3,Qu,Eu,ht,hq,he⟩:=h
 exact ⟨h1,h2,h3,Qu,Eu,ht,fun v H2 n z=>hQ _ _ (hq v H2 n z),fun c d H2 n z=>hE _ _ _ (he c d H2 n z)⟩
def spH (P:Program)(w:World)(K:PySem.W.Frag)(mg:Str->Option Value)(base:Heap)(kc:Nat)(hs:qkP):Sp:=fun vs H Q _=>∃ a o fd sp0,vs=[.ref a]/\H a=some (fz o)/\o.data = .func fd/\ClOk P w K mg base kc a sp0/\qnP sp0 /\
 sp0 H (fun v H'=>hs.kV v H' Q) (fun c _ H'=>hs.kE c H' Q)
def qjQ (hs:qkP)(P:Addr)(q:Str)(σ0:St->St)(te:XK->TE):TE:=fun σ H Q=>H P=some (.tab q)/\∀ H1,Same H H1->te (fun c _ H'=>hs.kE c H' Q) (σ0 σ) H1 (fun v H'=>hs.kV v H' Q)
theorem qkF {cs:List Addr}{H:Hp}{h:Heap}(x:qb7 cs H h):qa6 cs (frzC h cs H)=H:=by
 funext b
 by_cases hb:b∈cs
 ·rw [qa7 hb,(x b hb).1]
 ·rw [qao hb,qaE hb]
theorem qfl {cs:List Addr}{H H2:Hp}(x:∀ c∈cs,H2 c=none):qa6 cs (qdz cs H H2)=H2:=by
 funext b
 by_cases hb:b∈cs
 ·rw [qa7 hb,x b hb]
 ·rw [qao hb,qaT hb]
theorem qbP {X:Cx}{fn:Str}{ps:List Str}{k kc:Nat}{hs:qkP}{c P:Addr}{q:Str}{params:Arguments}{body:Expr}{scope:Scope}{lpos p pos:Pos}{N:List Str}{σ0:St->St}{te:XK->TE}
  (cal:Cal X.prog X.w X.K X.mg X.base fn ps k (spH X.prog X.w X.K X.mg X.base (kc + 1) hs)) (hr:Room k X.A) (L:LamB X.mg X.base c P) (hcode:X.env.code = .ref c) (hq:X.env.qual ++ "<lambda>" = q) (hfn:∀ x,X.fn x=true)
  (hdef:defaultsOf params X.env=([],[])) (hkind:scope.kind = .function) (hco:scope.isCoroutine=false) (hgen:scope.isGenerator=false) (hcell:∀ y∈scope.names,y.2 ≠ .cell)
  (hfr:∀ y∈scope.names,y.2 = .free->X.env.kindOf y.1=some .cell\/X.env.kindOf y.1=some .free) (hσ:Sees X scope N σ0)
  (hbind:∀ (cl:List (Str × Addr)) (pm ctv cd:Value),bindArgs (PySem.W.kla_fn "<lambda>" q params body scope cl pm cd ctv) ⟨[],[]⟩=pure [])
  (hbody:∀ (cl:List (Str × Addr)) (f c':Addr) (A:Around) (outer:List Env) (s:Shared) (H:Hp) (E:XK),Room kc (A.deeper (PySem.W.envX q scope s.heap.objs.size f (.ref c') cl))->PE (qhG X.prog X.w X.K X.mg X.base N q scope cl f (.ref c') A outer s H E) body (te E))
  (hg:Gl X fn:=by rfl) (hd:(fn == ("__debug__" : Str))=false:=by decide)
  (he:starEach [.Lambda params body scope lpos] X.env=(false,eval (.Lambda params body scope lpos) X.env) :: starEach [] X.env:=by rfl) (hpl:(backTo pos (starEach [] X.env)).any (·.1)=false:=by rfl) :
  PE X (.Call (.Name fn p) [.Lambda params body scope lpos] [] pos) (qjQ hs P q σ0 te):=by
 intro pins s σ H Q I h
 obtain ⟨hP,hte⟩:=h
 obtain ⟨g,fd,F,m,kp,hb⟩:=cal.ex
 obtain ⟨cl,hclos,hcl1,hcl2⟩:=qcN (env:=X.env) (scope:=scope) fun y hy hf=>I.ok.has y.1 (hfr y hy hf)
 refine wpAny_Call_Name_kw (qdp I hg m ?_ hd)
 refine PySem.W.callWith_K (h₀:=X.base) I.ok.mod.kin kp (spliced_more (thn (qks L hcode hq hdef hclos I hP) fun v s1 h1=>spliced_none ?_) he) he hpl
 obtain ⟨f,c',oc,vs,t,pm,ctv,H1,rfl,I1,sm,ef,ec,hd1,hv1⟩:=h1
 refine ⟨I1.kIn,?_⟩
 have inC:∀ x c,cl.lookup x=some c->c∈cl.filterMap fun p=>cl.lookup p.1:=fun x c e=>List.mem_filterMap.mpr ⟨(x,c),PySem.mem_of_lookup e,e⟩
 have ofC:∀ c∈cl.filterMap (fun p=>cl.lookup p.1),∃ x,cl.lookup x=some c/\X.env.cells.lookup x=some c:=fun c hc=>by
  obtain ⟨p,_,e⟩:=List.mem_filterMap.mp hc
  exact ⟨p.1,e,hcl1 _ _ e⟩
 generalize hcs:(cl.filterMap fun p=>cl.lookup p.1)=cs at *
 have xin:qb7 cs H1 s1.heap:=fun c hc=>by
  obtain ⟨x,_,e⟩:=ofC c hc
  obtain ⟨v,o,eo,_⟩:=I1.cell x c e
  exact ⟨I1.freeC x c e,o,eo⟩
 have low:∀ c∈cs,X.s₀.heap.objs.size≤c:=fun c hc=>by
  obtain ⟨x,_,e⟩:=ofC c hc
  exact I1.ok.cab x c (hfn x) e
 have nS:∀ c∈cs,c ∉ frs X.stack:=fun c hc z=>by
  obtain ⟨x,_,e⟩:=ofC c hc
  rcases List.mem_cons.mp (I1.stkSub c z) with y | y
  ·exact I1.cne x c e y
  ·obtain ⟨_,o,eo,_⟩:=I1.ok.funs.mem y
   exact absurd (Nat.lt_of_lt_of_le (Heap.lt_size eo) (low c hc)) (Nat.lt_irrefl _)
 have fo:f ∉ cs:=qcU xin ef
 have co:c' ∉ cs:=qcU xin ec
 have e0:Env0 X.prog X.w X.K X.mg X.base X.A X.stack s1 (frzC s1.heap cs H1):=by
  refine ⟨I1.ok.frames,I1.ok.mod,fun b o e=>⟨I1.bk b o e,?_⟩,Nat.le_trans I1.ok.bsz I1.sz,I1.stack,fun b hb=>?_,qml xin I1.hok,I1.bare⟩
  ·have:b ∉ cs:=fun z=>absurd (Nat.lt_of_lt_of_le (Heap.lt_size e) (Nat.le_trans I1.ok.bsz (low b z))) (Nat.lt_irrefl _)
   rw [qaE this]
   exact (I1.bs b o e).2
  ·rw [qaE fun z=>nS b z hb]
   exact I1.stkFree b hb
 have ob:∀ c∈cs,∃ o v,frzC s1.heap cs H1 c=some (fc o)/\o.data = .cell v:=fun c hc=>by
  obtain ⟨x,_,e⟩:=ofC c hc
  obtain ⟨v,o,eo,d⟩:=I1.cell x c e
  exact ⟨o,v,qcM hc eo,d⟩
 have cok:ClOk X.prog X.w X.K X.mg X.base (kc + 1) f (qly cs (frzC s1.heap cs H1) f c' te (σ0 σ)):=by
  refine ql8 (N:=N) hkind hco hgen hcell inC (fun x y c a b=>I1.ok.inj x y c (hcl1 x c a) (hcl1 y c b)) hcl2 (hσ σ).1 (fun i x v e1 e2=>?_) ob (by rw [qaE fo]; exact ef) (by rw [qaE co]; exact ec) hd1 hv1 (hbind cl pm ctv (.ref c')) fun A outer s H E hr=>hbody cl f c' A outer s H E hr
  obtain ⟨hf,j,hj,hv⟩:=(hσ σ).2 i x v e1 e2
  refine ⟨hf,?_⟩
  have hm:=qbs hf
  obtain ⟨m',hn,hl⟩:=id I1.loc
  have hk:=hfr _ hm rfl
  have hvis:Vis X.env.scope x:=hk.elim (fun z => .inr (.inl z)) fun z => .inr (.inr z)
  obtain ⟨u,r,lk⟩:=hl j x v hj hv hvis
  obtain ⟨c2,hc2⟩:=hcl2 x hm
  have hx:=hcl1 x c2 hc2
  rcases lk with ⟨kl,_⟩ | ⟨_,c3,e3,o3,ho3,hd3⟩
  ·rcases hk with z | z <;> rw [kl] at z <;> cases z
  ·rw [hx] at e3
   cases e3
   exact ⟨c2,o3,u,hc2,qcM (inC x c2 hc2) ho3,hd3,r⟩
 have hsp:spH X.prog X.w X.K X.mg X.base (kc + 1) hs [.ref f] (frzC s1.heap cs H1) (fun v H'=>Q v (qa6 cs H')) E0:=by
  refine ⟨f,_,_,_,rfl,by rw [qaE fo]; exact ef,rfl,cok,qkn,rfl,rfl,fun _ _=>rfl,fun v H'=>hs.kV v H' Q,fun c _ H'=>hs.kE c H' Q,?_,fun v H2 n z=>?_,fun c d H2 n z=>?_⟩
  ·rw [qkF xin]
   exact hte H1 sm
  ·refine hs.comV cs _ Q v (fun c hc=>?_) (by rw [qfl n]; exact z)
   obtain ⟨o,v',e,_⟩:=ob c hc
   rw [qc4 hc,e]
   simp
  ·refine hs.comE cs _ Q c (fun c2 hc=>?_) (by rw [qfl n]; exact z)
   obtain ⟨o,v',e,_⟩:=ob c2 hc
   rw [qc4 hc,e]
   simp
 have hl:([Value.ref f] ++ ([]:List Value)).length=ps.length:=(F.len _ _ _ _ hsp).symm ▸ rfl
 have bt:=hb s1 [.ref f] I1.kIn hl
 refine wpAny_call (codeAny_mono (F.run X.A X.stack s1 _ ⟨[.ref f],[]⟩ [.ref f] [.ref f] _ E0 hr e0 bt (.cons rfl .nil) hsp) fun r s' hz=>?_)
 cases r with
 | error e=>exact False.elim hz
 | ok fl =>
  cases fl with
  | ret u =>
   obtain ⟨v,H',os,bare,un,hok,rv,qq⟩:=hz
   exact ⟨v,qa6 cs H',I1.call' os (qmG xin un hok) (qg0 (qkL xin.frz un) hok) bare fun b z=>absurd z (by simp),rv,qq⟩
  | next=>exact False.elim hz
  | brk=>exact False.elim hz
  | cont=>exact False.elim hz
def xVar0 (P:Program)(w:World)(K:PySem.W.Frag)(mg:Str->Option Value)(base:Heap)(k i:Nat):TEX:=fun σ H Q EX=>∃ a o fd sp0,σ[i]?=some (some (.ref a))/\H a=some (fz o)/\o.data = .func fd/\ClOk P w K mg base k a sp0 /\
 sp0 H Q (fun c _ H'=>∃ C,c = .ref C/\EX C H')
theorem qj7 {X:Cx}{i k:Nat}{x:Str}{p pos:Pos}(hr:Room k X.A)(hN:X.N[i]?=some x)(hv:Vis X.env.scope x)(hd:(x == ("__debug__" : Str))=false:=by decide)(hcd:(x == ("__classdict__" : Str))=false:=by decide) :
  PEX X (.Call (.Name x p) [] [] pos) (xVar0 X.prog X.w X.K X.mg X.base k i):=by
 intro pins s σ H Q EX I h
 obtain ⟨a,o,fd,sp0,e1,e2,e3,cok,hs⟩:=h
 have hn:=qk0 (X:=X.nox) (pos:=p) hN hv hd hcd
 refine wpAny_Call_Name_kw (wpAny_mono (hn pins s σ H (fun v H'=>v = .ref a/\H'=H) (I.wish _) ⟨.ref a,e1,rfl,rfl⟩) (fun u s1 h1=>?_) fun _ _ z=>False.elim z)
 obtain ⟨v,H1,I1,r,rfl,rfl⟩:=h1
 obtain rfl:u=Value.ref a:=r
 have I1:=I1.unwish
 have ea:=(I1.hok a _ e2).1
 obtain ⟨oc,od,oda,osl⟩:=o
 dsimp only at e3
 subst e3
 refine PySem.W.callWith_F0 ⟨oc,od,fd,osl,ea⟩ ?_
 refine wpAny_call (codeAny_mono (cok X.A X.stack s1 _ Q _ hr I1.env0 hs) fun r s' hz=>?_)
 cases r with
 | error e =>
  obtain ⟨y,C,H',rfl,F,C2,ec,hx⟩:=hz
  cases ec
  exact ⟨y,C,σ,_,H',s1,rfl,I1,F,hx⟩
 | ok fl =>
  cases fl with
  | ret u=>exact I1.after hz
  | next=>exact False.elim hz
  | brk=>exact False.elim hz
  | cont=>exact False.elim hz
def rIsiE (K:PySem.W.Frag):List V->Hp->VK->Prop:=fun xs H Q=>∃ e C y cv b,xs=[.ref e,y]/\RelV y cv/\H e=some (excO e C)/\ExcK K C/\PySem.W.kitOne K (.ref C) cv=some b/\Q (.bl b) H
theorem qcw {X:Cx}:qb8 X (.builtin "isinstance") (rIsiE X.K):=by
 intro pins s σ H xs us Q I r h
 obtain ⟨e,C,y,cv,b,rfl,ry,he,z,kb,q⟩:=h
 obtain ⟨u,w',rfl,ru,rw'⟩:=vals2 r
 obtain rfl:u=Value.ref e:=ru
 have ew:w'=cv:=by
  cases y <;> first | exact (show _=_ from rw').trans (show _=_ from ry).symm | skip
  all_goals
   obtain ⟨t1,z1⟩:=rw'
   obtain ⟨t2,z2⟩:=ry
   skip
  all_goals
   subst z1 z2
   unfold PySem.W.kitOne at kb
   simp [PySem.W.kitCls] at kb
 subst ew
 exact PySem.W.kia_one (qgQ z) I.kIn (I.hok e _ he).1 kb (fun z=>nomatch z) fun tk=>⟨.bl b,H,I.tok _,rfl,q⟩
def qLam (x:Str):Str:=(x ++ ".<locals>.") ++ "<lambda>"
structure qdC (mg:Str->Option Value)(base:Heap)(x:Str)(c P:Addr):Prop where
 fn:∃ f o fd,mg x=some (.ref f)/\base.get? f=some o/\o.data = .func fd/\fd.code = .ref c
 lb:LamB mg base c P
theorem qiS {P:Program}{w:World}{K:PySem.W.Frag}{mg mb:Str->Option Value}{k:Nat}{fa a:Addr}{fd:FuncData}{x:Str}{sp:Sp}{s₁:Shared}{vs:List Value}{ns:List Int}{lams:List Str}{cp:Str->Addr × Addr}
  (KX:K.In s₁.heap) (hns:s₁.heap.Ns mainGlobals mg) (hb:s₁.heap.Ns builtinsNs mb) (hbb:∀ x:Str,x ≠ "__name__" -> mb x=bootBuiltins x) (hlim:s₁.heap.NoLimit) (hg:s₁.gens=#[])
  (hbm:∃ bm ob,mg "__builtins__" = some (.ref bm)/\bm≠builtinsNs/\s₁.heap.get? bm=some ob/\ob.cls = .type "module" /\ ob.dict=some builtinsNs/\ob.data = .plain)
  (ha:s₁.heap.get? a=some { cls := .type "list",data := .seq vs.toArray }) (hi:IntsAre vs ns) (hl:ns.length≤sizeLine) (hr:Room k callerA) (noT:PySem.W.noTabs K=true)
  (hT:∀ y∈lams,(∃ f o fd,mg y=some (.ref f)/\s₁.heap.get? f=some o/\o.data = .func fd/\fd.code = .ref (cp y).1)/\PySem.W.CodeHd s₁.heap (cp y).1 (cp y).2/\s₁.heap.get? (cp y).2=some (PySem.W.tabObj #[]))
  (hinj:∀ y∈lams,∀ z∈lams,(cp y).2=(cp z).2->y=z)
  (F:∀ base:Heap,K.In base->base.Ns mainGlobals mg->(∀ y∈lams,qdC mg base y (cp y).1 (cp y).2)->FnOk P w K mg base CX0 k fa fd [x] sp) (hbind:∀ (s:Shared) (u:Value),BindsTo s fd ⟨[u],[]⟩ [(x,u)])
  (hsp:∀ H:Hp,SqL K H a (ns.map V.int)->(∀ y∈lams,H (cp y).2=some (.tab (qLam y)))->sp [.ref a] H (fun v H'=>v = .bl true/\∀ y∈lams,H' (cp y).2=some (.tab (qLam y))) fun _ _ _=>False) :
  codeAny (model P w) callerA (.call (.ref fa) ⟨[.ref a],[]⟩) (fun r s'=>r = .ok (.ret (.bool true))/\OldK s₁.heap s'.heap/\s'.os=s₁.os/\AllBare s'.gens) s₁:=by
 have rv:=qeG hi
 have lenV:=hi.length
 have kT:∀ y∈lams,K.lookup (cp y).2=none:=fun y hy=>by
  cases e:K.lookup (cp y).2 with
  | none=>rfl
  | some o =>
   have e2:=KX _ _ e
   rw [(hT y hy).2.2] at e2
   cases e2
   have:=List.all_eq_true.mp noT _ (PySem.W.mem_of_lookupK e)
   exact absurd (show false=true from this) Bool.false_ne_true
 have aT:∀ y∈lams,(cp y).2≠a:=fun y hy z=>by
  have e:=(hT y hy).2.2
  rw [z,ha] at e
  cases e
 have core:∀ H:Hp,SqL K H a (ns.map V.int)->(∀ y∈lams,H (cp y).2=some (.tab (qLam y)))->HOk P w H s₁.heap->(∀ b u,H b=some u->(b=a/\K.lookup a=none/\∃ o v,u = .frz o v)\/∃ y∈lams,b=(cp y).2) ->
   codeAny (model P w) callerA (.call (.ref fa) ⟨[.ref a],[]⟩) (fun r s'=>r = .ok (.ret (.bool true))/\OldK s₁.heap s'.heap/\s'.os=s₁.os/\AllBare s'.gens) s₁:=by
  intro H hS hTab hok hA
  have non:∀ {b:Addr} {o:Obj},s₁.heap.get? b=some o->(∀ ps,o≠PySem.W.tabObj ps)->(K.lookup a=none->b≠a)->H b=none:=fun {b o} e n na=>by
   cases q:H b with
   | none=>rfl
   | some u =>
    rcases hA b u q with ⟨z,kz,_⟩ | ⟨y,hy,z⟩
    ·exact absurd z (na kz)
    ·rw [z,(hT y hy).2.2] at e
     cases e
     exact absurd rfl (n #[])
  have noA:∀ {b:Addr} {o:Obj} {es:Array DictEntry} {ep:Nat},s₁.heap.get? b=some o->o.data = .dict es ep->H b=none:=fun {b o es ep} e d=>by
   refine non e (fun ps z=>by rw [z] at d; cases d) fun _ z=>?_
   rw [z,ha] at e
   cases e
   cases d
  have nsK:∀ {b:Addr} {m:Str->Option Value},s₁.heap.Ns b m->(hidT s₁.heap H).Ns b m:=fun {b m} ⟨o,es,ep,e,d,r⟩=>⟨o,es,ep,qcr e (noA e d),d,r⟩
  have hKb:K.In (hidT s₁.heap H):=fun b o e=>qcr (KX b o e) (by
   cases q:H b with
   | none=>rfl
   | some u =>
    rcases hA b u q with ⟨z,kz,_⟩ | ⟨y,hy,z⟩
    ·rw [z,kz] at e; cases e
    ·rw [z,kT y hy] at e; cases e)
  have hM:Mod K mg (hidT s₁.heap H):=⟨hKb,nsK hns,⟨mb,nsK hb,hbb⟩,let ⟨mc,h1,h2⟩:=hlim; ⟨mc,nsK h1,h2⟩⟩
  have e0:Env0 P w K mg (hidT s₁.heap H) callerA [] s₁ H:=⟨rfl,hM,fun b o e=>ql4 e,Nat.le_of_eq (qi1 _ _),trivial,fun b hb=>absurd (show b∈([]:List Addr) from hb) (by simp),hok,.of_eq hg⟩
  have lamB:∀ y∈lams,qdC mg (hidT s₁.heap H) y (cp y).1 (cp y).2:=fun y hy=>by
   obtain ⟨⟨f,o,fd',m1,g1,d1,c1⟩,⟨o2,vs2,file,tf,flags,tg,inF,text,tt,p1,p2,p3,r⟩,_⟩:=hT y hy
   obtain ⟨bm,ob,q1,q2,q3,q4,q5⟩:=hbm
   refine ⟨⟨f,o,fd',m1,qcr g1 (non g1 (fun ps z=>by rw [z] at d1; cases d1) fun _ z=>by rw [z,ha] at g1; cases g1; cases d1),d1,c1⟩,⟨o2,vs2,file,tf,flags,tg,inF,text,tt,qcr p1 (non p1 (fun ps z=>by rw [z] at p2; cases p2) fun _ z=>by rw [z,ha] at p1; cases p1; exact absurd p2 (by simp)),p2,p3,r⟩,bm,ob,q1,q2,qcr q3 (non q3 (fun ps z=>by rw [z] at q4; cases q4) fun _ z=>by rw [z,ha] at q3; cases q3; exact absurd q4 (by simp)),q4,q5⟩
  refine codeAny_mono ((F _ hKb (nsK hns) lamB).run callerA [] s₁ H ⟨[.ref a],[]⟩ [.ref a] [.ref a] _ _ hr e0 (hbind s₁ (.ref a)) (.cons rfl .nil) (hsp H hS hTab)) fun r s' h=>?_
  cases r with
  | error e=>exact False.elim h
  | ok fl =>
   cases fl with
   | next=>exact False.elim h
   | brk=>exact False.elim h
   | cont=>exact False.elim h
   | ret u =>
    obtain ⟨v,H',os,bare,un,hok',r',q⟩:=h
    obtain ⟨q',qT⟩:v = .bl true/\∀ y∈lams,H' (cp y).2=some (.tab (qLam y)):=q
    subst q'
    obtain rfl:u=Value.bool true:=r'
    refine ⟨rfl,⟨fun b o e=>?_,fun b o e=>un.there b o e (by simp)⟩,os,bare⟩
    cases q:H b with
    | none=>exact .inl (un.keep b o e q (by intro z; exact absurd (show b∈([]:List Addr) from z) (by simp)) (by simp))
    | some u =>
     rcases hA b u q with ⟨z,kz,ob,v,rfl⟩ | ⟨y,hy,z⟩
     ·have z2:=un.frzs b ob _ q
      obtain ⟨e1,_⟩:=hok b _ q
      obtain ⟨e2,_⟩:=hok' b _ z2
      rw [e] at e1; cases e1
      exact .inl e2
     ·subst z
      have e2:=(hT y hy).2.2
      rw [e] at e2
      cases e2
      obtain ⟨ps,e3,_⟩:=hok' _ _ (qT y hy)
      exact .inr (.inl ⟨((hT y hy).2.1.tab (hT y hy).2.2).isCodeTable,rfl,#[],ps,rfl,by rw [Array.empty_append]; exact e3⟩)
 have fnd:∀ y∈lams,lams.find? (fun z=>decide ((cp z).2=(cp y).2))=some y:=fun y hy=>by
  cases e:lams.find? (fun z=>decide ((cp z).2=(cp y).2)) with
  | none=>exact absurd (decide_eq_true rfl) (List.find?_eq_none.mp e y hy)
  | some z =>
   have h1:=List.mem_of_find?_eq_some e
   have h2:=of_decide_eq_true (List.find?_some (p:=fun z=>decide ((cp z).2=(cp y).2)) e)
   rw [hinj z h1 y hy h2]
 have tabOk:∀ (H:Hp) (y:Str),y∈lams->qaR P w H s₁.heap (cp y).2 (.tab (qLam y)):=fun H y hy=>⟨#[],(hT y hy).2.2,True.intro,fun pos cv h=>by cases (show (none:Option Value)=some cv from h)⟩
 cases hk:K.lookup a with
 | some o =>
  have e:=KX a o hk
  rw [ha] at e
  cases e
  refine core (fun b=>(lams.find? fun z=>decide ((cp z).2=b)).map fun y => .tab (qLam y)) (.inr ⟨_,vs.toArray,_,hk,rfl,rfl,rfl,by rw [List.size_toArray,lenV]; exact hl,by simpa using rv⟩) (fun y hy=>by rw [fnd y hy]; rfl) (fun b u z=>?_) fun b u z=>?_
  ·obtain ⟨y,e1,rfl⟩:=Option.map_eq_some_iff.mp z
   have h1:=List.mem_of_find?_eq_some e1
   have h2:=of_decide_eq_true (List.find?_some (p:=fun z=>decide ((cp z).2=b)) e1)
   rw [<- h2]
   exact tabOk _ y h1
  ·obtain ⟨y,e1,rfl⟩:=Option.map_eq_some_iff.mp z
   exact .inr ⟨y,List.mem_of_find?_eq_some e1,(of_decide_eq_true (List.find?_some (p:=fun z=>decide ((cp z).2=b)) e1)).symm⟩
 | none =>
  refine core (fun b=>if b=a then some (.frz { cls := .type "list",data := .seq vs.toArray } (.lst (ns.map V.int))) else (lams.find? fun z=>decide ((cp z).2=b)).map fun y => .tab (qLam y)) (.inl (.inr ⟨{ cls := .type "list",data := .seq vs.toArray },if_pos rfl⟩)) (fun y hy=>by rw [if_neg (aT y hy),fnd y hy]; rfl) (fun b u z=>?_) fun b u z=>?_
  ·by_cases hb:b=a
   ·have z':=(if_pos hb).symm.trans z
    cases z'
    subst hb
    exact ⟨ha,by rw [List.length_map]; exact hl,vs,_,rv,ha⟩
   ·have z':=(if_neg hb).symm.trans z
    obtain ⟨y,e1,rfl⟩:=Option.map_eq_some_iff.mp z'
    have h1:=List.mem_of_find?_eq_some e1
    have h2:=of_decide_eq_true (List.find?_some (p:=fun z=>decide ((cp z).2=b)) e1)
    rw [<- h2]
    exact tabOk _ y h1
  ·by_cases hb:b=a
   ·have z':=(if_pos hb).symm.trans z
    cases z'
    exact .inl ⟨hb,hk,_,_,rfl⟩
   ·have z':=(if_neg hb).symm.trans z
    obtain ⟨y,e1,rfl⟩:=Option.map_eq_some_iff.mp z'
    exact .inr ⟨y,List.mem_of_find?_eq_some e1,(of_decide_eq_true (List.find?_some (p:=fun z=>decide ((cp z).2=b)) e1)).symm⟩
theorem walk_ofT {l:PySem.W.OpenLaw}{n k:Nat}{q:Program}{loose:List Str}{XP:(Str->Option Value)->Heap->Prop}{YP:World->Heap->Prop}{d:DefRec}{K:Params->PySem.W.Frag}{sp:World->(Str->Addr × Addr)->Sp}{x:Str}{lams:List Str}
  (hn:l.most=some n) (hn2:n≤sizeLine) (hdf:d.params.defaults=[]) (hr:Room k callerA) (noT:∀ p,PySem.W.noTabs (K p)=true) (hlam:∀ y∈lams,∃ e∈recsOf q,e.name=y)
  (hY:∀ (w:World) (h:Heap),YP w h->(K w.params).In h)
  (hinj:∀ (w:World) (mg:Str->Option Value) (h:Heap) (cp:Str->Addr × Addr),(K w.params).In h->h.Ns mainGlobals mg ->
    (∀ y∈lams,(∃ f o fd,mg y=some (.ref f)/\h.get? f=some o/\o.data = .func fd/\fd.code = .ref (cp y).1)/\PySem.W.CodeHd h (cp y).1 (cp y).2/\h.get? (cp y).2=some (PySem.W.tabObj #[]))->∀ y∈lams,∀ z∈lams,(cp y).2=(cp z).2->y=z)
  (F:∀ (w:World) (mg:Str->Option Value) (fa:Addr) (h:Heap),(K w.params).In h->h.Ns mainGlobals mg->mg d.name=some (.ref fa) ->
    ∃ fd:FuncData,(∀ (s:Shared) (u:Value),BindsTo s fd ⟨[u],[]⟩ [(x,u)]) /\
     ∀ (cp:Str->Addr × Addr) (base:Heap),(K w.params).In base->base.Ns mainGlobals mg->(∀ y∈lams,qdC mg base y (cp y).1 (cp y).2)->FnOk l.prog w (K w.params) mg base CX0 k fa fd [x] (sp w cp))
  (hsp:∀ (w:World) (cp:Str->Addr × Addr) (H:Hp) (a:Addr) (ns:List Int),ns.length≤n->SqL (K w.params) H a (ns.map V.int)->(∀ y∈lams,H (cp y).2=some (.tab (qLam y))) ->
    sp w cp [.ref a] H (fun v H'=>v = .bl true/\∀ y∈lams,H' (cp y).2=some (.tab (qLam y))) fun _ _ _=>False) :
  PySem.W.WalkO q loose XP YP l.row.toRowW d [] (fun f vs=>PySem.call f vs):=by
 refine Att.attach_call hn hdf fun w s₀ s₁ mg mb fa o pm cd doc a vs ns G Y ho hd hcd hmg hobj hints hlen hg=>?_
 have KX:=hY w _ Y
 obtain ⟨fd,hb,hF⟩:=F w mg fa _ KX G.T.g hmg
 have ex:∀ y:Str,∃ cp:Addr × Addr,y∈lams->(∃ f o fd,mg y=some (.ref f)/\s₁.heap.get? f=some o/\o.data = .func fd/\fd.code = .ref cp.1)/\PySem.W.CodeHd s₁.heap cp.1 cp.2/\s₁.heap.get? cp.2=some (PySem.W.tabObj #[]):=fun y=>by
  by_cases hy:y∈lams
  ·obtain ⟨e,he,rfl⟩:=hlam y hy
   obtain ⟨a',o',fd',c,P,h1,h2,h3,h4,h5,h6⟩:=G.T.tab e he
   exact ⟨(c,P),fun _=>⟨⟨a',o',fd',h1,h2,h3,h4⟩,PySem.W.CodeHd.of h5 h6,h6.2⟩⟩
  ·exact ⟨(0,0),fun z=>absurd z hy⟩
 obtain ⟨cp,hcp⟩:=Classical.axiomOfChoice ex
 exact qiS KX G.T.g G.T.b G.T.builtins G.T.nolimit hg G.T.bmain hobj hints (Nat.le_trans hlen hn2) hr (noT _) hcp (hinj w mg _ cp KX G.T.g hcp) (hF cp) hb fun H hS hT=>hsp w cp H a ns hlen hS hT
end L2
namespace L2
theorem qkJ {X:Cx}(b:Body X:=by exact ⟨rfl,rfl,rfl⟩):Body X:=b
end L2
namespace My
open PySem L2 MA
structure Errs where
 ball:Addr
 c0:Addr
 c1:Addr
 c2:Addr
 c3:Addr
 c4:Addr
 c5:Addr
 c6:Addr
 c7:Addr
 c8:Addr
structure ErrN (mg:Str->Option Value)(e:Errs):Prop where
 ball:mg "BallError" = some (.ref e.ball)
 m0:mg "NoShare" = some (.ref e.c0)
 m1:mg "NoBall" = some (.ref e.c1)
 m2:mg "Unlike" = some (.ref e.c2)
 m3:mg "Fuller" = some (.ref e.c3)
 m4:mg "TooMany" = some (.ref e.c4)
 m5:mg "NoBack" = some (.ref e.c5)
 m6:mg "NoName" = some (.ref e.c6)
 m7:mg "NoText" = some (.ref e.c7)
 m8:mg "NoRow" = some (.ref e.c8)
structure ErrI (K:PySem.W.Frag)(e:Errs)(C:Addr)(i:Nat):Prop where
 lt:i < 9
 ek:ExcK K C
 ball:PySem.W.exmOne K (.ref C) (.ref e.ball)=some true
 i0:PySem.W.kitOne K (.ref C) (.ref e.c0)=some (decide (i=0))
 i1:PySem.W.kitOne K (.ref C) (.ref e.c1)=some (decide (i=1))
 i2:PySem.W.kitOne K (.ref C) (.ref e.c2)=some (decide (i=2))
 i3:PySem.W.kitOne K (.ref C) (.ref e.c3)=some (decide (i=3))
 i4:PySem.W.kitOne K (.ref C) (.ref e.c4)=some (decide (i=4))
 i5:PySem.W.kitOne K (.ref C) (.ref e.c5)=some (decide (i=5))
 i6:PySem.W.kitOne K (.ref C) (.ref e.c6)=some (decide (i=6))
 i7:PySem.W.kitOne K (.ref C) (.ref e.c7)=some (decide (i=7))
 i8:PySem.W.kitOne K (.ref C) (.ref e.c8)=some (decide (i=8))
 ve:PySem.W.kitOne K (.ref C) (.type "ValueError")=some true
theorem qik {cs:List Addr}{H H':Hp}(s:Same H H'):Same (qa6 cs H) (qa6 cs H'):=fun b o e=>by
 by_cases hb:b∈cs
 ·rw [qa7 hb] at e; cases e
 ·rw [qao hb] at e ⊢; exact s b o e
theorem qeD:bootBuiltins "ValueError" = some (.type "ValueError"):=by decide +kernel
end My
namespace L2
end L2
namespace My
open PySem L2 MA
def qgn (K:PySem.W.Frag)(T:Addr)(q:Str):Sp:=fun vs H Q _=>∃ (a:Addr) (ns:List Int),vs=[.ref a]/\SqL K H a (ns.map V.int)/\ns.length≤63/\H T=some (.tab q)/\∀ H',H' T=some (.tab q)->Q (.bl true) H'
theorem lam_rec {q:Program}{x:Str}{d:PySem.DefRec}(hr:(PyProof.Rows.recsOf q).find? (fun e=>e.name == x)=some d):∃ e∈PyProof.Rows.recsOf q,e.name=x :=
 ⟨d,List.mem_of_find?_eq_some hr,beq_iff_eq.mp (List.find?_some (p:=fun e:PySem.DefRec=>e.name == x) hr)⟩
theorem errN_mk {K:PySem.W.Frag}{h:Heap}{mg:Str->Option Value}{b c0 c1 c2 c3 c4 c5 c6 c7 c8:Addr}(X:K.In h)(G:h.Ns mainGlobals mg)(a:PySem.W.nsIn K mainGlobals "BallError" = some (some (.ref b)))
  (a0:PySem.W.nsIn K mainGlobals "NoShare" = some (some (.ref c0))) (a1:PySem.W.nsIn K mainGlobals "NoBall" = some (some (.ref c1))) (a2:PySem.W.nsIn K mainGlobals "Unlike" = some (some (.ref c2)))
  (a3:PySem.W.nsIn K mainGlobals "Fuller" = some (some (.ref c3))) (a4:PySem.W.nsIn K mainGlobals "TooMany" = some (some (.ref c4))) (a5:PySem.W.nsIn K mainGlobals "NoBack" = some (some (.ref c5)))
  (a6:PySem.W.nsIn K mainGlobals "NoName" = some (some (.ref c6))) (a7:PySem.W.nsIn K mainGlobals "NoText" = some (some (.ref c7))) (a8:PySem.W.nsIn K mainGlobals "NoRow" = some (some (.ref c8))):ErrN mg ⟨b,c0,c1,c2,c3,c4,c5,c6,c7,c8⟩ :=
 ⟨PySem.W.mg_of X G a,PySem.W.mg_of X G a0,PySem.W.mg_of X G a1,PySem.W.mg_of X G a2,PySem.W.mg_of X G a3,PySem.W.mg_of X G a4,PySem.W.mg_of X G a5,PySem.W.mg_of X G a6,PySem.W.mg_of X G a7,PySem.W.mg_of X G a8⟩
def qkD (K:PySem.W.Frag)(e:Errs)(C:Addr)(i:Nat):Bool :=
 decide (i < 9) && (PySem.W.findIn K (.ref C) "__getattribute__" == some (some (.builtin "BaseException.__getattribute__"))) && (PySem.W.findIn K (.ref C) "__getattr__" == some none) && (PySem.W.findIn K (.ref C) "__class__" == some (some (.builtin "object.__class__"))) &&
 (PySem.W.specialIn K (.builtin "object.__class__") "__get__" == some (some (.builtin "getset_descriptor.__get__"))) && (PySem.W.takesIn K (.builtin "object.__class__") == some true) && (PySem.W.clsIn K C).isSome && (PySem.W.mroIn K C (.type "object") == some true) && (PySem.W.mroIn K C (.type "BaseException") == some true) &&
 (PySem.W.exmOne K (.ref C) (.ref e.ball) == some true) && ((([e.c0,e.c1,e.c2,e.c3,e.c4,e.c5,e.c6,e.c7,e.c8]:List Addr).zipIdx.all fun p=>PySem.W.kitOne K (.ref C) (.ref p.1) == some (decide (i=p.2)))) && (PySem.W.kitOne K (.ref C) (.type "ValueError") == some true) && PySem.W.excIn K C bmVE "ValueError.__new__"
theorem qg4 {K:PySem.W.Frag}{e:Errs}{C:Addr}{i:Nat}(h:qkD K e C i=true):ErrI K e C i/\PySem.W.excIn K C bmVE "ValueError.__new__" = true:=by
 unfold qkD at h
 simp only [Bool.and_eq_true,beq_iff_eq,decide_eq_true_eq,List.zipIdx_cons,List.zipIdx_nil,List.all_cons,List.all_nil,and_true] at h
 obtain ⟨⟨⟨⟨⟨⟨⟨⟨⟨⟨⟨⟨h1,h2⟩,h3⟩,h4⟩,h5⟩,h6⟩,h7⟩,h8⟩,h9⟩,h10⟩,k0,k1,k2,k3,k4,k5,k6,k7,k8⟩,h12⟩,h13⟩:=h
 exact ⟨⟨h1,⟨h2,h3,h4,h5,h6,h7,h8,h9⟩,h10,k0,k1,k2,k3,k4,k5,k6,k7,k8,h12⟩,h13⟩
end My
namespace L2
open PySem PySem.Spec PyProof.Rows
end L2
namespace My
open PySem L2 MA
theorem qa8 {H H':Hp}{l:Addr}(hl:H l=none)(s:Same H H')(o:HO):Same H (upd H' l o):=fun b u q=>by rw [uE (qab q hl)]; exact s _ _ q
theorem qmd {n j:Nat}(h:j < n):ixN n ((j:Nat):Int)=some j:=by
 unfold ixN
 rw [if_pos (by omega),if_pos (by omega)]
 simp
theorem qnJ {ns:List Int}{j:Nat}{x:Int}(h:ns[j]?=some x):atI (iv ns) ((j:Nat):Int)=some (.int x):=qdA (by rw [List.getElem?_map,h]; rfl)
theorem qfc (ns:List Int)(j:Nat)(y:Int):(iv ns).set j (.int y)=iv (ns.set j y):=by show (ns.map V.int).set j (.int y)=(ns.set j y).map V.int; rw [List.map_set]
end My
namespace L2
open PySem PySem.Spec PyProof.Rows
def qmZ (K:PySem.W.Frag):List V->Hp->VK->Prop:=fun xs H Q=>∃ (e C t:Addr) (cs:List Addr) (b:Bool),xs=[.ref e,.ref t]/\H e=some (excO e C)/\ExcK K C/\H t=some (.tup (cs.map V.ref))/\PySem.W.kitAny K (.ref C) (cs.map Value.ref)=some b/\Q (.bl b) H
theorem qeY:∀ {cs:List Addr} {us:List Value},Vals (cs.map V.ref) us->us=cs.map Value.ref
 | [],_,.nil=>rfl
 | c :: cs,_,.cons r t=>by
  have e:_=Value.ref c:=r
  rw [e,qeY t]
  rfl
theorem qhJ {X:Cx}:qb8 X (.builtin "isinstance") (qmZ X.K):=by
 intro pins s σ H xs us Q I r h
 obtain ⟨e,C,t,cs,b,rfl,he,z,ht,kb,q⟩:=h
 obtain ⟨u,w',rfl,ru,rw'⟩:=vals2 r
 obtain rfl:u=Value.ref e:=ru
 obtain rfl:w'=Value.ref t:=rw'
 obtain ⟨its,rv,tp,_⟩:=I.tuple (SqT.of ht)
 have ei:=qeY rv
 subst ei
 obtain ⟨o,ho,hc,n,hd⟩:=tp
 obtain ⟨c0,dd,da,sl⟩:=o
 dsimp only at hc hd
 subst hc hd
 exact PySem.W.kia_tup (qgQ z) I.kIn (I.hok e _ he).1 ho kb (fun z=>nomatch z) fun tk=>⟨.bl b,H,I.tok _,rfl,q⟩
theorem PS.nox {X:Cx}{st:Stmt}{t:TS}(h:PS X.nox st t):PS X st t:=fun pins s σ H D I hw =>
 wpAny_mono (h pins s σ H D (I.wish _) hw) (fun _ _ q=>q.unwish) fun _ _ z=>False.elim z
theorem Fun.okL {P:Program}{w:World}{K:PySem.W.Frag}{mg:Str->Option Value}{base:Heap}{x:Str}{st:Stmt}{f:Addr}{fd:FuncData}{N ps:List Str}{k:Nat}{sp:Sp}{c T:Addr}(F:Fun K x x st f fd)(hm:mg x=some (.ref f))(kb:K.In base)(L:qdC mg base x c T)(S:qai N ps (qae st))(len:∀ vs H Q E,sp vs H Q E->vs.length=ps.length)
  (hbody:∀ (A:Around) (outer:List Env) (s:Shared) (H:Hp) (vs:List V) (Q:VK) (E:XK),Room k (A.deeper (envOfC x (qae st) s.heap.objs.size f (.ref c)))->sp vs H Q E ->
    ∃ t,PSs (cxOf CX0 P w K mg base N x (qae st) f (.ref c) A outer s H E).nox (qbb st) t/\t { nx:=fun _ H'=>Q .non H',rt:=Q } (start N vs) H):FnOk P w K mg base CX0 (k + 1) f fd ps sp:=by
 obtain ⟨oc,od,kV,doc,pm,an,cdv,ct,osl,rfl,lk,hcd⟩:=F.ex
 have e:cdv = .ref c:=by
  obtain ⟨f2,o2,fd2,m2,g2,d2,c2⟩:=L.fn
  rw [hm] at m2
  cases m2
  rw [kb _ _ lk] at g2
  cases g2
  cases d2
  exact c2
 subst e
 refine qmp lk hcd S len fun A outer s H vs Q E hr hsp=>?_
 obtain ⟨t,h,q⟩:=hbody A outer s H vs Q E hr hsp
 exact ⟨t,h.nox,q⟩
end L2
namespace My
open PySem L2 MA
def wordOf (i:Nat):Str:=if i=2 then "unlike" else if i=4 then "many" else "ball"
def qhB (K:PySem.W.Frag)(e:Errs):qkP where
 kV:=fun _ H Q=>Q (.str "told") H
 kE:=fun c H Q=>∃ C i,c = .ref C/\ErrI K e C i/\(i=1\/i=2\/i=4)/\∀ H',Same H H'->Q (.str (wordOf i)) H'
 comV:=fun cs H Q v x k=>k
 comE:=fun cs H Q c x k=>by
  obtain ⟨C,i,rfl,h,hi,k⟩:=k
  exact ⟨C,i,rfl,h,hi,fun H' s=>k _ (qik s)⟩
theorem qhw {K:PySem.W.Frag}{e:Errs}{C:Addr}{i:Nat}(z:ErrI K e C i)(hi:i=1\/i=2\/i=4):PySem.W.kitAny K (.ref C) ([e.c3,e.c5,e.c6,e.c8,e.c0,e.c7].map Value.ref)=some false:=by
 have h:∀ j,j=3\/j=5\/j=6\/j=8\/j=0\/j=7->decide (i=j)=false:=fun j hj=>decide_eq_false (by omega)
 have k0:=z.i0; have k3:=z.i3; have k5:=z.i5; have k6:=z.i6; have k7:=z.i7; have k8:=z.i8
 rw [h 0 (by simp)] at k0; rw [h 3 (by simp)] at k3; rw [h 5 (by simp)] at k5; rw [h 6 (by simp)] at k6; rw [h 7 (by simp)] at k7; rw [h 8 (by simp)] at k8
 simp only [List.map_cons,List.map_nil,PySem.W.kitAny,k0,k3,k5,k6,k7,k8]
end My
namespace L2
open PySem PySem.Spec PyProof.Rows
end L2
namespace L2
open PySem PySem.Spec PyProof.Rows MA
end L2
namespace My
open PySem L2 MA
end My
namespace L2
open PySem PySem.Spec PyProof.Rows MA SeqAt
end L2
namespace My
open PySem L2 MA
end My
namespace L2
open PySem PySem.Spec PyProof.Rows
end L2
namespace L2
open PySem PySem.Spec PyProof.Rows MA SeqAt
end L2
namespace PySem.SeqAt
open AutoSeq1 (wpAny_loadPart')
open MeetsSeq MeetsSeq2 MeetsSeq3 SeqRoads2
end PySem.SeqAt
namespace L2
open PySem PySem.Spec PyProof.Rows MA
end L2
namespace L2
open PySem PySem.Spec PyProof.Rows
end L2
namespace PyProof.Rows
open PySem
end PyProof.Rows
namespace L2
open PySem PySem.Spec PyProof.Rows MA
end L2
namespace L2
open PySem PySem.Spec PyProof.Rows
section
variable {X:Cx}{tg l:Expr}{tl:TE}
theorem qeZ (K:PySem.W.Frag)(h:X.K=K)(hl:PE X l tl):PI X tg l (qnt K tl):=by subst h; exact qa5 hl
end
end L2
namespace My
open PySem L2 MA
end My
namespace PySem.SeqAt
open AutoSeq1 (wpAny_loadPart')
open MeetsSeq MeetsSeq2 MeetsSeq3
def qd1 (A:Around)(s:Shared)(y x:Value)(b:Bool):Prop :=
 ∀ (prog:Program) (w:World) (E:Value->Shared->Prop) (Q:Value->Shared->Prop),Q (.bool b) s->wpAny (model prog w) A (richCompare .Lt y x) Q E s
theorem qhk (l b:Addr)(items items2:Array Value)(n n2:Nat)(dd dd2:Option Addr)(sl sl2:Array (Option Value))(e f res:Nat->Bool)
  (r1:∀ i,i < min items.size items2.size->e i=true->res i=res (i + 1)) (r2:∀ i,i < min items.size items2.size->e i=false->res i=f i) (r3:∀ i,min items.size items2.size≤i->res i=decide (items.size < items2.size)) :
  Meets (Builtin.«tuple.__lt__» ⟨[.ref l,.ref b],[]⟩)
   (fun A R s=>s.heap.get? l=some { cls := .type "tuple",dict:=dd,data := .seq items n,slots:=sl }/\s.heap.get? b=some { cls := .type "tuple",dict:=dd2,data := .seq items2 n2,slots:=sl2 } /\
     (∀ j (h1:j < items.size) (h2:j < items2.size),EqAt A.in1 s items[j] items2[j] (e j))/\(∀ j (h1:j < items.size) (h2:j < items2.size),e j=false->qd1 A.in1 s items[j] items2[j] (f j)) /\
     R (.ok (.ret (.bool (res 0)))) s) :=
 .of_wp fun prog w A R s h=>by
  obtain ⟨hp,g,d,tk,os⟩:=s; obtain ⟨hl,hb,he,hlt',h⟩:=h
  have f2:=AutoSeq1.sub_tuple_tuple
  have hZ:(items.toList.zip items2.toList).length=min items.size items2.size:=by simp
  wp_walk using wpAny_loadPart' hl,wpAny_loadPart' hb,wpAny_forIn_list _ (fun rest b s'=>b.1=none/\s'=⟨hp,g,d,tk,os⟩/\∃ i,rest=(items.toList.zip items2.toList).drop i /\
   R (.ok (.ret (.bool (res i)))) ⟨hp,g,d,tk,os⟩) _
  case turn =>
   rintro ⟨y,x⟩ rest b s' ⟨hb',rfl,i,hz,hR⟩
   have hlt:i < (items.toList.zip items2.toList).length:=by
    rcases Nat.lt_or_ge i (items.toList.zip items2.toList).length with h' | h'
    ·exact h'
    ·rw [List.drop_of_length_le h'] at hz; cases hz
   have hm:i < min items.size items2.size:=hZ ▸ hlt
   have h1:i < items.size:=Nat.lt_of_lt_of_le hm (Nat.min_le_left _ _)
   have h2:i < items2.size:=Nat.lt_of_lt_of_le hm (Nat.min_le_right _ _)
   rw [List.drop_eq_getElem_cons hlt] at hz
   injection hz with hyx hrest
   have hy:y=items[i]:=by have:=congrArg Prod.fst hyx; simpa using this
   have hx:x=items2[i]:=by have:=congrArg Prod.snd hyx; simpa using this
   subst hy hx
   refine wpAny_bind (he i h1 h2 prog w _ _ ?_)
   cases hy:e i with
   | true =>
    rw [r1 i hm hy] at hR
    wp_walk
    exact ⟨rfl,rfl,i + 1,hrest,hR⟩
   | false =>
    rw [r2 i hm hy] at hR
    have hc:=hlt' i h1 h2 hy
    simp only [Bool.not_false,if_true]
    refine wpAny_bind (wpAny_rule (wpAny_bind (hc prog w _ _ (wpAny_bind (wpAny_pure (wpAny_pure ?_))))))
    exact wpAny_pure ⟨_,rfl,hR⟩
  case fin =>
   rintro ⟨b1,b2⟩ s' ⟨hb',rfl,i,hz,hR⟩
   simp only at hb'
   subst hb'
   have hge:min items.size items2.size≤i:=by
    rcases Nat.lt_or_ge i (items.toList.zip items2.toList).length with h' | h'
    ·rw [List.drop_eq_getElem_cons h'] at hz; cases hz
    ·exact hZ ▸ h'
   rw [r3 i hge] at hR
   wp_walk
   exact ⟨_,rfl,by simpa [Builtin.Tuple.tupleCompareSizes] using hR⟩
  case h =>
   exact ⟨rfl,rfl,0,rfl,h⟩
section
variable {A:Around}{s:Shared}
theorem qd1.tuples {l b:Addr}{items items2:Array Value}{e f res:Nat->Bool}(hl:s.heap.IsTuple l items)(hb:s.heap.IsTuple b items2)(hu:A.units < cLine)
  (r1:∀ i,i < min items.size items2.size->e i=true->res i=res (i + 1)) (r2:∀ i,i < min items.size items2.size->e i=false->res i=f i) (r3:∀ i,min items.size items2.size≤i->res i=decide (items.size < items2.size))
  (he:∀ j (h1:j < items.size) (h2:j < items2.size),EqAt A.in1 s items[j] items2[j] (e j)) (hf:∀ j (h1:j < items.size) (h2:j < items2.size),e j=false->qd1 A.in1 s items[j] items2[j] (f j)):qd1 A s (.ref l) (.ref b) (res 0):=fun prog w E Q h=>by
 obtain ⟨⟨cls,dd,data,sl⟩,ho,hc,n,hd⟩:=id hl
 obtain ⟨⟨cls2,dd2,data2,sl2⟩,ho2,hc2,n2,hd2⟩:=id hb
 simp only at hc hd hc2 hd2
 subst hc hd hc2 hd2
 exact richCompare_meets_room (op := .Lt) ⟨_,ho,rfl⟩ ⟨_,ho2,rfl⟩ F.slot_tuple_lt F.entry_tuple_lt (F.args_tuple_lt_2 _ _) (qhk l b items items2 n n2 dd dd2 sl sl2 e f res r1 r2 r3)
  ⟨ho,ho2,he,hf,show Value.bool (res 0)≠Value.notImplemented/\Q (.bool (res 0)) s from ⟨(fun x=>nomatch x),h⟩⟩ hu
end
end PySem.SeqAt
namespace Srt
open PySem PySem.W PyProof.Rows
structure Ord (c:Nat->Nat->Bool):Prop where
 asym:∀ i j,c i j=true->c j i=false
 tr:∀ i j k,c j i=false->c k j=false->c k i=false
abbrev at' (p:Array Nat)(i:Nat):Nat:=p.getD i 0
def Up (c:Nat->Nat->Bool)(p:Array Nat)(m:Nat):Prop:=∀ i j,i≤j->j < m->c (at' p j) (at' p i)=false
theorem at_of {p q:Array Nat}{i j:Nat}(h:p[i]?=q[j]?):at' p i=at' q j:=by
 unfold at'
 rw [Array.getD_eq_getD_getElem?,Array.getD_eq_getD_getElem?,h]
theorem qa3 {p:Array Nat}{i j:Nat}(hj:j≤p.size)(k:Nat):at' (kas_rev p i j) k=if i≤k/\k < j then at' p (i + j - 1 - k) else at' p k:=by
 have h:=getElem?_mirror_all (i:=i) hj k
 split at h
 ·rename_i q; rw [if_pos q]; exact at_of h
 ·rename_i q; rw [if_neg q]; exact at_of h
theorem qjG {p:Array Nat}{k l:Nat}(hk:k < p.size)(hl:l≤k)(i:Nat):at' (bubble p k (k - l)) i=if i=l then at' p k else if l < i/\i≤k then at' p (i - 1) else at' p i:=by
 have h:=getElem?_bubble hk (k - l) (by omega) i
 rw [show k - (k - l)=l by omega] at h
 split at h
 ·rename_i q; rw [if_pos q]; exact at_of h
 ·rename_i q; rw [if_neg q]
  split at h
  ·rename_i q; rw [if_pos q]; exact at_of h
  ·rename_i q; rw [if_neg q]; exact at_of h
def Of (n:Nat)(p:Array Nat):Prop:=p.Perm (List.toArray (List.range n))
theorem Of.size {n:Nat}{p:Array Nat}(h:Of n p):p.size=n:=by have:=h.size_eq; simpa using this
theorem Of.lt {n:Nat}{p:Array Nat}(h:Of n p){i:Nat}(hi:i < n):at' p i < n:=by
 have hs:=h.size
 have e:at' p i=p[i]'(by omega):=by unfold at'; simp [hs,hi]
 have hm:p[i]'(by omega)∈(List.range n):=by
  have:=(Array.perm_iff_toList_perm.mp h).mem_iff (a:=p[i]'(by omega))
  exact this.mp (by simp)
 rw [e]; exact List.mem_range.mp hm
theorem Of.rev {n:Nat}{p:Array Nat}(h:Of n p)(i j:Nat):Of n (kas_rev p i j):=(mirror_perm p i j _).trans h
theorem Of.bub {n:Nat}{p:Array Nat}(h:Of n p)(i j:Nat):Of n (bubble p i j):=(bubble_perm p i j).trans h
abbrev In (n:Nat)(i j:Nat):Prop:=i < n/\j < n/\i≠j
theorem Of.inn {n:Nat}{p:Array Nat}(h:Of n p){i j:Nat}(hi:i < n)(hj:j < n)(hne:i≠j):In n (at' p i) (at' p j):=by
 refine ⟨h.lt hi,h.lt hj,fun e=>hne ?_⟩
 have hs:=h.size
 have nd:p.toList.Nodup:=(Array.perm_iff_toList_perm.mp h).nodup_iff.mpr (by simpa using List.nodup_range)
 have e1:at' p i=p.toList[i]'(by simp; omega):=by unfold at'; simp [hs,hi]
 have e2:at' p j=p.toList[j]'(by simp; omega):=by unfold at'; simp [hs,hj]
 rw [e1,e2] at e
 have pw:=List.pairwise_iff_getElem.mp nd
 rcases Nat.lt_trichotomy i j with x | x | x
 ·exact absurd e (pw i j (by simp; omega) (by simp; omega) x)
 ·exact x
 ·exact absurd e.symm (pw j i (by simp; omega) (by simp; omega) x)
section
variable {c:Nat->Nat->Bool}(O:Ord c){n:Nat}
include O
theorem Ord.irr (i:Nat):c i i=false:=by
 cases h:c i i with
 | false=>rfl
 | true=>exact (O.asym i i h).symm.trans h ▸ rfl
end
def qmn:Bool->Keyed->Array Keyed->Nat->Nat->Nat->StateT SortSt Sem (Option Nat):=sortPriv% PySem.Builtin.gallop
section
variable {prog:Program}{w:World}{A:Around}{E:Value->Shared->Prop}{s:Shared}
theorem qad {arr:Array Keyed}{i:Nat}{x:Keyed}{st:SortSt}{Q:Keyed->SortSt->Prop}(h:arr[i]?=some x)(k:Q x st):wpS (model prog w) A E s (elem' arr i) Q st:=by
 rw [elem'_eq,h]
 exact wpS_pure k
theorem qaq {left:Bool}{key:Keyed}{arr:Array Keyed}{base n hint:Nat}{st:SortSt}{Q:Option Nat->SortSt->Prop}(B:Nat->Bool)(mono:∀ i j,i≤j->j < n->B j=true->B i=true)(hh:hint < n)
  (hb:∀ i,i < n->∃ x,arr[base + i]?=some x/\(∀ Q:Option Bool->SortSt->Prop,left=true->Q (some (B i)) st->wpS (model prog w) A E s (lt' x key) Q st)/\(∀ Q:Option Bool->SortSt->Prop,left=false->Q (some (!B i)) st->wpS (model prog w) A E s (lt' key x) Q st))
  (h:∀ k,k≤n->(∀ i,i < k->B i=true)->(∀ i,k≤i->i < n->B i=false)->Q (some k) st):wpS (model prog w) A E s (qmn left key arr base n hint) Q st:=by
 have byd:∀ i,i < n->∀ Q:Option Bool->SortSt->Prop,Q (some (B i)) st->wpS (model prog w) A E s (elem' arr (base + i) >>= fun x=>if left=true then lt' x key else lt' key x >>= fun r=>pure (r.map fun b=>!b)) Q st:=by
  intro i hi Q hQ
  obtain ⟨x,hx,h1,h2⟩:=hb i hi
  refine wpS_bind (qad hx ?_)
  cases left with
  | true=>rw [if_pos rfl]; exact h1 _ rfl hQ
  | false=>rw [if_neg (by decide)]; exact wpS_bind (h2 _ rfl (wpS_pure (by simpa using hQ)))
 have neg:∀ i j,i≤j->j < n->B i=false->B j=false:=fun i j hij hj hi=>by
  cases hB:B j with
  | false=>rfl
  | true=>rw [mono i j hij hj hB] at hi; exact hi
 refine wpS_bind (byd hint hh _ ?_)
 dsimp only
 cases hB:B hint with
 | true =>
  simp only [if_true]
  refine wpS_bind (wpS_mono (wpS_forRange (I:=fun x c st'=>st'=st/\∃ l o,c=(none,l,o)/\l < o/\x + 1≤o/\hint + l < n/\B (hint + l)=true)
   (Q:=fun c st'=>st'=st/\∃ l o,c=(none,l,o)/\l < o/\hint + l < n/\B (hint + l)=true/\(n - hint≤o\/(hint + o < n/\B (hint + o)=false))) ?_ ?_ ⟨rfl,0,1,rfl,by omega,by omega,by omega,hB⟩) ?_)
  ·rintro x c st' _ hx ⟨rfl,l,o,rfl,hlo,hxo,hl,hBl⟩
   dsimp only
   by_cases c:o ≥ n - hint
   ·rw [if_pos c]
    exact wpS_pure ⟨rfl,l,o,rfl,hlo,hl,hBl,.inl c⟩
   ·rw [if_neg c]
    refine wpS_bind (byd (hint + o) (by omega) _ ?_)
    dsimp only
    cases hBo:B (hint + o) with
    | true =>
     simp only [Bool.not_true,Bool.false_eq_true,if_false]
     exact wpS_pure ⟨rfl,o,_,rfl,by omega,by omega,by omega,hBo⟩
    | false =>
     simp only [Bool.not_false,if_true]
     exact wpS_pure ⟨rfl,l,o,rfl,hlo,hl,hBl,.inr ⟨by omega,hBo⟩⟩
  ·rintro c st' ⟨rfl,l,o,rfl,hlo,hxo,hl,hBl⟩
   exact ⟨rfl,l,o,rfl,hlo,hl,hBl,.inl (by omega)⟩
  ·rintro c st' ⟨rfl,l,o,rfl,hlo,hl,hBl,hor⟩
   have lo1:∀ i,i < hint + l + 1->B i=true:=fun i hi=>mono i (hint + l) (by omega) hl hBl
   have hi1:∀ i,hint + min o (n - hint)≤i->i < n->B i=false:=fun i h1 h2=>by
    rcases hor with z | ⟨z1,z2⟩
    ·omega
    ·exact neg (hint + o) i (by omega) h2 z2
   dsimp only
   refine wpS_bind (wpS_mono (wpS_forRange (I:=fun x c st''=>st''=st'/\∃ a b,c=(none,a,b)/\a≤b/\b≤n/\b - a≤n - x/\(∀ i,i < a->B i=true)/\∀ i,b≤i->i < n->B i=false)
    (Q:=fun c st''=>st''=st'/\∃ a,c=(none,a,a)/\a≤n/\(∀ i,i < a->B i=true)/\∀ i,a≤i->i < n->B i=false) ?_ ?_ ⟨rfl,_,_,rfl,by omega,by omega,by omega,lo1,hi1⟩) ?_)
   ·rintro x c st'' _ hx ⟨rfl,a,b,rfl,hab,hbn,hm,ha,hb'⟩
    dsimp only
    by_cases c:a ≥ b
    ·rw [if_pos c]
     have:a=b:=by omega
     subst this
     exact wpS_pure ⟨rfl,a,rfl,hbn,ha,hb'⟩
    ·rw [if_neg c]
     refine wpS_bind (byd (a + (b - a) / 2) (by omega) _ ?_)
     dsimp only
     cases hm':B (a + (b - a) / 2) with
     | true =>
      simp only [if_true]
      exact wpS_pure ⟨rfl,_,_,rfl,by omega,by omega,by omega,fun i hi=>mono i _ (by omega) (by omega) hm',hb'⟩
     | false =>
      simp only [Bool.false_eq_true,if_false]
      exact wpS_pure ⟨rfl,_,_,rfl,by omega,by omega,by omega,ha,fun i h1 h2=>neg _ i h1 h2 hm'⟩
   ·rintro c st'' ⟨rfl,a,b,rfl,hab,hbn,hm,ha,hb'⟩
    have:a=b:=by omega
    subst this
    exact ⟨rfl,a,rfl,hbn,ha,hb'⟩
   ·rintro c st'' ⟨rfl,a,rfl,han,ha,hb'⟩
    exact wpS_pure (h a han ha hb')
 | false =>
  simp only [Bool.false_eq_true,if_false]
  refine wpS_bind (wpS_mono (wpS_forRange (I:=fun x c st'=>st'=st/\∃ l o,c=(none,l,o)/\l < o/\x + 1≤o/\l≤hint/\B (hint - l)=false)
   (Q:=fun c st'=>st'=st/\∃ l o,c=(none,l,o)/\l < o/\l≤hint/\B (hint - l)=false/\(hint + 1≤o\/(o≤hint/\B (hint - o)=true))) ?_ ?_ ⟨rfl,0,1,rfl,by omega,by omega,by omega,hB⟩) ?_)
  ·rintro x c st' _ hx ⟨rfl,l,o,rfl,hlo,hxo,hl,hBl⟩
   dsimp only
   by_cases c:o ≥ hint + 1
   ·rw [if_pos c]
    exact wpS_pure ⟨rfl,l,o,rfl,hlo,hl,hBl,.inl c⟩
   ·rw [if_neg c]
    refine wpS_bind (byd (hint - o) (by omega) _ ?_)
    dsimp only
    cases hBo:B (hint - o) with
    | true =>
     simp only [if_true]
     exact wpS_pure ⟨rfl,l,o,rfl,hlo,hl,hBl,.inr ⟨by omega,hBo⟩⟩
    | false =>
     simp only [Bool.false_eq_true,if_false]
     exact wpS_pure ⟨rfl,o,_,rfl,by omega,by omega,by omega,hBo⟩
  ·rintro c st' ⟨rfl,l,o,rfl,hlo,hxo,hl,hBl⟩
   exact ⟨rfl,l,o,rfl,hlo,hl,hBl,.inl (by omega)⟩
  ·rintro c st' ⟨rfl,l,o,rfl,hlo,hl,hBl,hor⟩
   have hi1:∀ i,hint - l≤i->i < n->B i=false:=fun i h1 h2=>neg (hint - l) i h1 h2 hBl
   have lo1:∀ i,i < hint + 1 - min o (hint + 1)->B i=true:=fun i hi=>by
    rcases hor with z | ⟨z1,z2⟩
    ·omega
    ·exact mono i (hint - o) (by omega) (by omega) z2
   dsimp only
   refine wpS_bind (wpS_mono (wpS_forRange (I:=fun x c st''=>st''=st'/\∃ a b,c=(none,a,b)/\a≤b/\b≤n/\b - a≤n - x/\(∀ i,i < a->B i=true)/\∀ i,b≤i->i < n->B i=false)
    (Q:=fun c st''=>st''=st'/\∃ a,c=(none,a,a)/\a≤n/\(∀ i,i < a->B i=true)/\∀ i,a≤i->i < n->B i=false) ?_ ?_ ⟨rfl,_,_,rfl,by omega,by omega,by omega,lo1,hi1⟩) ?_)
   ·rintro x c st'' _ hx ⟨rfl,a,b,rfl,hab,hbn,hm,ha,hb'⟩
    dsimp only
    by_cases c:a ≥ b
    ·rw [if_pos c]
     have:a=b:=by omega
     subst this
     exact wpS_pure ⟨rfl,a,rfl,hbn,ha,hb'⟩
    ·rw [if_neg c]
     refine wpS_bind (byd (a + (b - a) / 2) (by omega) _ ?_)
     dsimp only
     cases hm':B (a + (b - a) / 2) with
     | true =>
      simp only [if_true]
      exact wpS_pure ⟨rfl,_,_,rfl,by omega,by omega,by omega,fun i hi=>mono i _ (by omega) (by omega) hm',hb'⟩
     | false =>
      simp only [Bool.false_eq_true,if_false]
      exact wpS_pure ⟨rfl,_,_,rfl,by omega,by omega,by omega,ha,fun i h1 h2=>neg _ i h1 h2 hm'⟩
   ·rintro c st'' ⟨rfl,a,b,rfl,hab,hbn,hm,ha,hb'⟩
    have:a=b:=by omega
    subst this
    exact ⟨rfl,a,rfl,hbn,ha,hb'⟩
   ·rintro c st'' ⟨rfl,a,rfl,han,ha,hb'⟩
    exact wpS_pure (h a han ha hb')
end
abbrev Asc (c:Nat->Nat->Bool)(l:List Nat):Prop:=l.Pairwise fun x y=>c y x=false
structure Mg (c:Nat->Nat->Bool)(la lb lo:List Nat)(ia ib:Nat):Prop where
 perm:(lo ++ la.drop ia ++ lb.drop ib).Perm (la ++ lb)
 srt:Asc c lo
 fa:∀ x∈lo,∀ y∈la.drop ia,c y x=false
 fb:∀ x∈lo,∀ y∈lb.drop ib,c y x=false
section
variable {c:Nat->Nat->Bool}{la lb lo:List Nat}{ia ib:Nat}
theorem Mg.takeA (h:Mg c la lb lo ia ib)(sa:Asc c la)(hi:ia < la.length)(hb:∀ y∈lb.drop ib,c y la[ia]=false):Mg c la lb (lo ++ [la[ia]]) (ia + 1) ib:=by
 have e:=List.drop_eq_getElem_cons hi
 have sd:Asc c (la.drop ia):=sa.sublist (List.drop_sublist _ _)
 have p:=h.perm
 have fa:=h.fa
 rw [e] at sd p fa
 refine ⟨?_,?_,?_,?_⟩
 ·simpa using p
 ·refine List.pairwise_append.mpr ⟨h.srt,List.pairwise_singleton _ _,fun x hx y hy=>?_⟩
  have ey:y=la[ia]:=List.mem_singleton.mp hy
  rw [ey]
  exact fa x hx _ List.mem_cons_self
 ·intro x hx y hy
  rcases List.mem_append.mp hx with q | q
  ·exact fa x q y (List.mem_cons_of_mem _ hy)
  ·have ex:x=la[ia]:=List.mem_singleton.mp q
   rw [ex]
   exact (List.pairwise_cons.mp sd).1 y hy
 ·intro x hx y hy
  rcases List.mem_append.mp hx with q | q
  ·exact h.fb x q y hy
  ·have ex:x=la[ia]:=List.mem_singleton.mp q
   rw [ex]
   exact hb y hy
theorem Mg.takeB (h:Mg c la lb lo ia ib)(sb:Asc c lb)(hi:ib < lb.length)(ha:∀ y∈la.drop ia,c y lb[ib]=false):Mg c la lb (lo ++ [lb[ib]]) ia (ib + 1):=by
 have e:=List.drop_eq_getElem_cons hi
 have sd:Asc c (lb.drop ib):=sb.sublist (List.drop_sublist _ _)
 have p:=h.perm
 have fb:=h.fb
 rw [e] at sd p fb
 refine ⟨?_,?_,?_,?_⟩
 ·refine List.Perm.trans ?_ p
  have:=(List.perm_middle (a:=lb[ib]) (l₁:=lo ++ la.drop ia) (l₂:=lb.drop (ib + 1))).symm
  refine List.Perm.trans ?_ this
  have q:=List.perm_middle (a:=lb[ib]) (l₁:=lo) (l₂:=la.drop ia ++ lb.drop (ib + 1))
  simpa using q
 ·refine List.pairwise_append.mpr ⟨h.srt,List.pairwise_singleton _ _,fun x hx y hy=>?_⟩
  have ey:y=lb[ib]:=List.mem_singleton.mp hy
  rw [ey]
  exact fb x hx _ List.mem_cons_self
 ·intro x hx y hy
  rcases List.mem_append.mp hx with q | q
  ·exact h.fa x q y hy
  ·have ex:x=lb[ib]:=List.mem_singleton.mp q
   rw [ex]
   exact ha y hy
 ·intro x hx y hy
  rcases List.mem_append.mp hx with q | q
  ·exact fb x q y (List.mem_cons_of_mem _ hy)
  ·have ex:x=lb[ib]:=List.mem_singleton.mp q
   rw [ex]
   exact (List.pairwise_cons.mp sd).1 y hy
theorem qeL {l:List Nat}{i k:Nat}(h:i + k < l.length):(l.drop i).take (k + 1)=(l.drop i).take k ++ [l[i + k]]:=by
 rw [List.take_succ_eq_append_getElem (by rw [List.length_drop]; omega)]
 simp
theorem qba (O:Ord c){l:List Nat}(s:Asc c l){i:Nat}(hi:i < l.length):∀ y∈l.drop i,c y l[i]=false:=by
 rw [List.drop_eq_getElem_cons hi]
 intro y hy
 rcases List.mem_cons.mp hy with rfl | q
 ·exact O.irr _
 ·have sd:Asc c (l.drop i):=s.sublist (List.drop_sublist _ _)
  rw [List.drop_eq_getElem_cons hi] at sd
  exact (List.pairwise_cons.mp sd).1 y q
theorem Mg.takeAs (O:Ord c)(h:Mg c la lb lo ia ib)(sa:Asc c la)(sb:Asc c lb)(hb:ib < lb.length):∀ (k:Nat),ia + k≤la.length->(∀ i,i < k->∀ q:ia + i < la.length,c lb[ib] la[ia + i]=false)->Mg c la lb (lo ++ (la.drop ia).take k) (ia + k) ib
 | 0,_,_=>by simpa using h
 | k + 1,hk,hc=>by
  have ih:=Mg.takeAs O h sa sb hb k (by omega) fun i hi=>hc i (by omega)
  rw [qeL (by omega),<- List.append_assoc]
  refine ih.takeA sa (by omega) fun y hy=>?_
  exact O.tr _ _ _ (hc k (by omega) (by omega)) (qba O sb hb y hy)
theorem Mg.takeBs (O:Ord c)(h:Mg c la lb lo ia ib)(sa:Asc c la)(sb:Asc c lb)(ha:ia < la.length):∀ (k:Nat),ib + k≤lb.length->(∀ i,i < k->∀ q:ib + i < lb.length,c lb[ib + i] la[ia]=true)->Mg c la lb (lo ++ (lb.drop ib).take k) ia (ib + k)
 | 0,_,_=>by simpa using h
 | k + 1,hk,hc=>by
  have ih:=Mg.takeBs O h sa sb ha k (by omega) fun i hi=>hc i (by omega)
  rw [qeL (by omega),<- List.append_assoc]
  refine ih.takeB sb (by omega) fun y hy=>?_
  exact O.tr _ _ _ (O.asym _ _ (hc k (by omega) (by omega))) (qba O sa ha y hy)
theorem Mg.endB (h:Mg c la lb lo ia lb.length)(sa:Asc c la):(lo ++ la.drop ia).Perm (la ++ lb)/\Asc c (lo ++ la.drop ia):=by
 have p:=h.perm
 rw [List.drop_length,List.append_nil] at p
 exact ⟨p,List.pairwise_append.mpr ⟨h.srt,sa.sublist (List.drop_sublist _ _),h.fa⟩⟩
theorem Mg.endA (h:Mg c la lb lo la.length ib)(sb:Asc c lb):(lo ++ lb.drop ib).Perm (la ++ lb)/\Asc c (lo ++ lb.drop ib):=by
 have p:=h.perm
 rw [List.drop_length,List.append_nil] at p
 exact ⟨p,List.pairwise_append.mpr ⟨h.srt,sb.sublist (List.drop_sublist _ _),h.fb⟩⟩
theorem Mg.last (h:Mg c la lb lo ia ib)(sb:Asc c lb)(hi:ia + 1=la.length)(hl:∀ y∈lb,c la[ia] y=false):(lo ++ lb.drop ib ++ la.drop ia).Perm (la ++ lb)/\Asc c (lo ++ lb.drop ib ++ la.drop ia):=by
 have e:la.drop ia=[la[ia]]:=by rw [List.drop_eq_getElem_cons (by omega),List.drop_of_length_le (by omega)]
 refine ⟨List.Perm.trans ?_ h.perm,?_⟩
 ·rw [List.append_assoc,List.append_assoc]
  exact List.Perm.append_left _ List.perm_append_comm
 ·refine List.pairwise_append.mpr ⟨List.pairwise_append.mpr ⟨h.srt,sb.sublist (List.drop_sublist _ _),h.fb⟩,by rw [e]; exact List.pairwise_singleton _ _,fun x hx y hy=>?_⟩
  rcases List.mem_append.mp hx with q | q
  ·exact h.fa x q y hy
  ·rw [e] at hy
   have ey:y=la[ia]:=List.mem_singleton.mp hy
   rw [ey]
   exact hl x (List.mem_of_mem_drop q)
end
def qko:Array Keyed->Array Keyed->StateT SortSt Sem (Array Keyed):=sortPriv% PySem.Builtin.mergeLo
section
variable {prog:Program}{w:World}{A:Around}{E:Value->Shared->Prop}{s:Shared}
abbrev kvs (kv:Nat->Keyed)(l:List Nat):Array Keyed:=(l.map kv).toArray
abbrev qar (st:SortSt)(g:Nat):SortSt:=SortSt.mk' (kindOf st) (arrOf st) (pendingOf st) g (failedOf st)
theorem qam {kv:Nat->Keyed}{l:List Nat}{i:Nat}(h:i < l.length):(kvs kv l)[i]?=some (kv l[i]):=by simp [h]
theorem qaj (kv:Nat->Keyed)(l:List Nat):(kvs kv l).size=l.length:=by simp
theorem qa1 (kv:Nat->Keyed)(l m:List Nat):kvs kv l ++ kvs kv m=kvs kv (l ++ m):=by simp
theorem qaV (kv:Nat->Keyed)(l:List Nat)(x:Nat):(kvs kv l).push (kv x)=kvs kv (l ++ [x]):=by simp
theorem qdS (kv:Nat->Keyed)(l:List Nat)(i k:Nat):(kvs kv l).extract i (i + k)=kvs kv ((l.drop i).take k):=by
 apply Array.toList_inj.mp
 simp [List.extract_eq_take_drop,List.map_drop,List.map_take]
theorem qcL (kv:Nat->Keyed)(l:List Nat)(i:Nat):(kvs kv l).extract i (kvs kv l).size=kvs kv (l.drop i):=by
 apply Array.toList_inj.mp
 simp only [Array.toList_extract,List.extract_eq_take_drop,qaj]
 rw [List.take_of_length_le (by simp),<- List.map_drop]
theorem qaa {l:List Nat}{i:Nat}(h:i < l.length):l.getD i 0=l[i]:=by simp [h]
theorem getD_mem {l:List Nat}{i:Nat}(h:i < l.length):l.getD i 0∈l:=by rw [qaa h]; exact List.getElem_mem h
theorem qbY {c:Nat->Nat->Bool}(O:Ord c){l:List Nat}(s:Asc c l){i j:Nat}(hij:i≤j)(hj:j < l.length):c l[j] (l[i]'(by omega))=false:=by
 rcases Nat.lt_or_ge i j with q | q
 ·exact List.pairwise_iff_getElem.mp s i j (by omega) hj q
 ·have:i=j:=by omega
  subst this; exact O.irr _
theorem qcz {c:Nat->Nat->Bool}(O:Ord c){l:List Nat}(s:Asc c l){i j x:Nat}(hi:i < l.length)(hj:j < l.length)(hij:i≤j)(h:c l[j] x=true):c l[i] x=true:=by
 cases e:c l[i] x with
 | true=>rfl
 | false=>have:=O.tr _ _ _ e (qbY O s hij hj); rw [this] at h; exact absurd h (by decide)
theorem qfu {c:Nat->Nat->Bool}(O:Ord c){l:List Nat}(s:Asc c l){i j x:Nat}(hi:i < l.length)(hj:j < l.length)(hij:i≤j)(h:c x l[j]=false):c x l[i]=false:=O.tr _ _ _ (qbY O s hij hj) h
theorem Mg.size {c:Nat->Nat->Bool}{la lb lo:List Nat}{ia ib:Nat}(h:Mg c la lb lo ia ib):lo.length + (la.length - ia) + (lb.length - ib)=la.length + lb.length:=by
 have:=h.perm.length_eq
 simp only [List.length_append,List.length_drop] at this
 omega
def Fin' (c:Nat->Nat->Bool)(kv:Nat->Keyed)(la lb:List Nat)(r:Array Keyed):Prop:=∃ l,r=kvs kv l/\l.Perm (la ++ lb)/\Asc c l
structure Jn (c:Nat->Nat->Bool)(la lb lo:List Nat)(ia ib:Nat):Prop where
 mg:Mg c la lb lo ia ib
 ha:ia + 1 < la.length
 hb:ib < lb.length
theorem qfv {c:Nat->Nat->Bool}(O:Ord c){kv:Nat->Keyed}{la lb:List Nat}{st:SortSt}{Q:Array Keyed->SortSt->Prop}(sa:Asc c la)(sb:Asc c lb)(a1:1≤la.length)(b1:1≤lb.length)
  (lt:∀ x∈la,∀ y∈lb,∀ (g:Nat) (Q:Option Bool->SortSt->Prop),Q (some (c x y)) (qar st g)->wpS (model prog w) A E s (lt' (kv x) (kv y)) Q (qar st g)) (gt:∀ x∈la,∀ y∈lb,∀ (g:Nat) (Q:Option Bool->SortSt->Prop),Q (some (c y x)) (qar st g)->wpS (model prog w) A E s (lt' (kv y) (kv x)) Q (qar st g))
  (hl:∀ y∈lb,c la[la.length - 1] y=false) (hf:∀ y∈la,c y lb[0]=false)
  (h:∀ (r:Array Keyed) (g:Nat),Fin' c kv la lb r->Q r (qar st g)):wpS (model prog w) A E s (qko (kvs kv la) (kvs kv lb)) Q st:=by
 have m0:Mg c la lb [] 0 0:=⟨by simp,.nil,fun x hx=>by simp at hx,fun x hx=>by simp at hx⟩
 have m1:Mg c la lb [lb[0]] 0 1:=by
  have:=m0.takeB sb b1 fun y hy=>hf y (by simpa using hy)
  simpa using this
 have lastA:∀ {lo:List Nat} {ia ib:Nat},Mg c la lb lo ia ib->ia + 1=la.length->Fin' c kv la lb (kvs kv lo ++ (kvs kv lb).extract ib (kvs kv lb).size ++ (kvs kv la).extract ia (kvs kv la).size):=by
  intro lo ia ib m e
  have el:la[la.length - 1]=la[ia]:=by congr 1; omega
  obtain ⟨p,q⟩:=m.last sb e (fun y hy=>by rw [<- el]; exact hl y hy)
  exact ⟨_,by rw [qcL,qcL,qa1,qa1],p,q⟩
 have endB:∀ {lo:List Nat} {ia ib:Nat},Mg c la lb lo ia ib->ib=lb.length->Fin' c kv la lb (kvs kv lo ++ (kvs kv la).extract ia (kvs kv la).size ++ (kvs kv lb).extract ib (kvs kv lb).size):=by
  intro lo ia ib m e
  subst e
  obtain ⟨p,q⟩:=m.endB sa
  refine ⟨_,?_,p,q⟩
  rw [qcL,qcL,qa1,qa1,List.drop_length,List.append_nil]
 have endA:∀ {lo:List Nat} {ia ib:Nat},Mg c la lb lo ia ib->ia=la.length->Fin' c kv la lb (kvs kv lo ++ (kvs kv la).extract ia (kvs kv la).size ++ (kvs kv lb).extract ib (kvs kv lb).size):=by
  intro lo ia ib m e
  subst e
  obtain ⟨p,q⟩:=m.endA sb
  refine ⟨_,?_,p,q⟩
  rw [qcL,qcL,qa1,qa1,List.drop_length,List.append_nil]
 refine wpS_bind (wpS_lift (wpAny_rule ⟨rfl,?_⟩))
 refine wpS_bind (qad (x:=kv lb[0]) (qam b1) ?_)
 have e0:(#[kv lb[0]]:Array Keyed)=kvs kv [lb[0]]:=rfl
 dsimp only
 rw [e0]
 by_cases c1:1=lb.length
 ·rw [if_pos (by simpa using c1)]
  exact wpS_pure (h _ (gallopOf st) (endB m1 c1))
 rw [if_neg (by simpa using c1)]
 by_cases c2:0 + 1=la.length
 ·rw [if_pos (by simpa using c2)]
  exact wpS_pure (h _ (gallopOf st) (lastA m1 c2))
 rw [if_neg (by simpa using c2)]
 refine wpS_bind (wpS_get ?_)
 have j1:Jn c la lb [lb[0]] 0 1:=⟨m1,by omega,by omega⟩
 refine wpS_bind (wpS_mono (wpS_forRange (I:=fun x z st'=>(∃ g,st'=qar st g)/\∃ lo ia ib mg,z=(none,kvs kv lo,ia,ib,mg)/\Jn c la lb lo ia ib/\1 + x≤lo.length)
  (Q:=fun z st'=>(∃ g,st'=qar st g)/\∃ r t,z=(some r,t)/\Fin' c kv la lb r) ?_ ?_ ⟨⟨gallopOf st,rfl⟩,_,_,_,_,rfl,j1,by simp⟩) ?_)
 ·rintro x z st' _ hx ⟨⟨g,rfl⟩,lo,ia,ib,mg,rfl,j,hlen⟩
  dsimp only
  refine wpS_bind (wpS_mono (wpS_forRange (I:=fun x z st'=>st'=qar st g/\∃ lo' ia ib ac bc,z=(none,kvs kv lo',ia,ib,ac,bc)/\Jn c la lb lo' ia ib/\lo.length + x≤lo'.length)
   (Q:=fun z st'=>st'=qar st g/\((∃ r t,z=(some r,t)/\Fin' c kv la lb r)\/∃ lo' ia ib ac bc,z=(none,kvs kv lo',ia,ib,ac,bc)/\Jn c la lb lo' ia ib/\lo.length + 1≤lo'.length)) ?_ ?_ ⟨rfl,_,_,_,_,_,rfl,j,by simp⟩) ?_)
  ·rintro x z st' _ hx ⟨rfl,lo',ia,ib,ac,bc,rfl,j,hlen'⟩
   have ha:=j.ha
   have hb:=j.hb
   dsimp only
   refine wpS_bind (qad (qam hb) (wpS_bind (qad (qam (show ia < la.length by omega)) ?_)))
   refine wpS_bind (gt _ (List.getElem_mem _) _ (List.getElem_mem _) g _ ?_)
   dsimp only
   cases hw:c lb[ib] la[ia] with
   | true =>
    simp only [if_true]
    have m2:=j.mg.takeB sb hb fun y hy=>O.tr _ _ _ (O.asym _ _ hw) (qba O sa (by omega) y hy)
    refine wpS_bind (qad (qam hb) ?_)
    rw [qaV]
    by_cases e:ib + 1=lb.length
    ·rw [if_pos (by simpa using e)]
     exact wpS_pure ⟨rfl,.inl ⟨_,_,rfl,endB m2 e⟩⟩
    ·rw [if_neg (by simpa using e)]
     have j2:Jn c la lb (lo' ++ [lb[ib]]) ia (ib + 1):=⟨m2,ha,by omega⟩
     split
     ·exact wpS_pure ⟨rfl,.inr ⟨_,_,_,_,_,rfl,j2,by simp; omega⟩⟩
     ·exact wpS_pure ⟨rfl,_,_,_,_,_,rfl,j2,by simp; omega⟩
   | false =>
    simp only [Bool.false_eq_true,if_false]
    have m2:=j.mg.takeA sa (show ia < la.length by omega) fun y hy=>O.tr _ _ _ hw (qba O sb hb y hy)
    refine wpS_bind (qad (qam (show ia < la.length by omega)) ?_)
    rw [qaV]
    by_cases e:ia + 1 + 1=la.length
    ·rw [if_pos (by simpa using e)]
     exact wpS_pure ⟨rfl,.inl ⟨_,_,rfl,lastA m2 e⟩⟩
    ·rw [if_neg (by simpa using e)]
     have j2:Jn c la lb (lo' ++ [la[ia]]) (ia + 1) ib:=⟨m2,by omega,hb⟩
     split
     ·exact wpS_pure ⟨rfl,.inr ⟨_,_,_,_,_,rfl,j2,by simp; omega⟩⟩
     ·exact wpS_pure ⟨rfl,_,_,_,_,_,rfl,j2,by simp; omega⟩
  ·rintro z st' ⟨rfl,lo',ia,ib,ac,bc,rfl,j,hlen'⟩
   have:=j.mg.size
   have:=j.ha
   have:=j.hb
   simp at hlen'
   omega
  ·rintro z st' ⟨rfl,⟨r,t,rfl,hr⟩ | ⟨lo',ia,ib,ac,bc,rfl,j,hlen'⟩⟩
   ·exact wpS_pure ⟨⟨g,rfl⟩,_,_,rfl,hr⟩
   dsimp only
   refine wpS_bind (wpS_lift (wpAny_rule ⟨rfl,?_⟩))
   refine wpS_bind (wpS_mono (wpS_forRange (I:=fun x z st'=>(∃ g,st'=qar st g)/\∃ lo'' ia ib mg ac bc,z=(none,kvs kv lo'',ia,ib,mg,ac,bc)/\Jn c la lb lo'' ia ib/\lo'.length + x≤lo''.length)
    (Q:=fun z st'=>(∃ g,st'=qar st g)/\((∃ r t,z=(some r,t)/\Fin' c kv la lb r)\/∃ lo'' ia ib mg ac bc,z=(none,kvs kv lo'',ia,ib,mg,ac,bc)/\Jn c la lb lo'' ia ib/\lo'.length≤lo''.length)) ?_ ?_ ⟨⟨g,rfl⟩,_,_,_,_,_,_,rfl,j,by simp⟩) ?_)
   ·rintro x z st' _ hx ⟨⟨g',rfl⟩,lo2,ia,ib,mg,ac,bc,rfl,j,hlen2⟩
    have ha:=j.ha
    have hb:=j.hb
    dsimp only
    by_cases gg:mg > 1
    ·rw [if_pos gg]
     refine wpS_bind (wpS_modify ?_)
     refine wpS_bind (qad (qam hb) ?_)
     refine wpS_bind (qaq (st:=qar st (mg - 1)) (fun i=>!(c lb[ib] (la.getD (ia + i) 0))) (fun i j' hij hj q=>?_) (by rw [qaj]; omega) (fun i hi=>⟨kv (la.getD (ia + i) 0),?_,fun Q' z _=>absurd z (by decide),fun Q' _ hQ=>gt _ (getD_mem (by rw [qaj] at hi; omega)) _ (List.getElem_mem _) _ _ (by simpa using hQ)⟩) fun k hk hT hF=>?_)
     ·rw [qaj] at hj
      rw [qaa (show ia + i < la.length by omega)]
      rw [qaa (show ia + j' < la.length by omega)] at q
      have q':c lb[ib] la[ia + j']=false:=by simpa using q
      have:=O.tr _ _ _ (qbY O sa (i:=ia + i) (j:=ia + j') (by omega) (by omega)) q'
      simpa using qfu O sa (by omega) (by omega) (by omega) q'
     ·rw [qaj] at hi
      rw [qam (show ia + i < la.length by omega),qaa (show ia + i < la.length by omega)]
     rw [qaj] at hk hF
     dsimp only
     have m2:=j.mg.takeAs O sa sb hb k (by omega) fun i hi q=>by
      have:=hT i hi
      rw [qaa q] at this
      simpa using this
     have hB2:∀ p,ia + k≤p->∀ q:p < la.length,c lb[ib] la[p]=true:=fun p hp q=>by
      have:=hF (p - ia) (by omega) (by omega)
      rw [show ia + (p - ia)=p by omega,qaa q] at this
      simpa using this
     by_cases k0:k > 0
     ·rw [if_pos k0,qdS,qa1]
      by_cases e1:ia + k + 1=la.length
      ·rw [if_pos (by simpa using e1)]
       exact wpS_pure ⟨⟨_,rfl⟩,.inl ⟨_,_,rfl,lastA m2 e1⟩⟩
      rw [if_neg (by simpa using e1)]
      by_cases e2:ia + k=la.length
      ·rw [if_pos (by simpa using e2)]
       exact wpS_pure ⟨⟨_,rfl⟩,.inl ⟨_,_,rfl,endA m2 e2⟩⟩
      rw [if_neg (by simpa using e2)]
      have hak:(ia + k) < la.length:=by omega
      have cut:c lb[ib] la[(ia + k)]=true:=hB2 (ia + k) (by omega) hak
      have m3:=m2.takeB sb hb fun y hy=>O.tr _ _ _ (O.asym _ _ cut) (qba O sa hak y hy)
      refine wpS_bind (qad (qam hb) ?_)
      rw [qaV]
      by_cases e3:ib + 1=lb.length
      ·rw [if_pos (by simpa using e3)]
       exact wpS_pure ⟨⟨_,rfl⟩,.inl ⟨_,_,rfl,endB m3 e3⟩⟩
      rw [if_neg (by simpa using e3)]
      refine wpS_bind (qad (qam hak) ?_)
      refine wpS_bind (qaq (st:=qar st (mg - 1)) (fun i=>c (lb.getD (ib + 1 + i) 0) la[(ia + k)]) (fun i j' hij hj q=>?_) (by rw [qaj]; omega) (fun i hi=>⟨kv (lb.getD (ib + 1 + i) 0),?_,fun Q' _ hQ=>gt _ (List.getElem_mem _) _ (getD_mem (by rw [qaj] at hi; omega)) _ _ hQ,fun Q' z _=>absurd z (by decide)⟩) fun k2 hk2 hT hF=>?_)
      ·rw [qaj] at hj
       rw [qaa (show ib + 1 + i < lb.length by omega)]
       rw [qaa (show ib + 1 + j' < lb.length by omega)] at q
       exact qcz O sb (by omega) (by omega) (by omega) q
      ·rw [qaj] at hi
       rw [qam (show ib + 1 + i < lb.length by omega),qaa (show ib + 1 + i < lb.length by omega)]
      rw [qaj] at hk2 hF
      dsimp only
      have m4:=m3.takeBs O sa sb hak k2 (by omega) fun i hi q=>by
       have:=hT i hi
       rwa [qaa (show ib + 1 + i < lb.length by omega)] at this
      have fb2:∀ y∈lb.drop (ib + 1 + k2),c y la[(ia + k)]=false:=fun y hy=>by
       by_cases z:ib + 1 + k2 < lb.length
       ·have z2:=hF k2 (Nat.le_refl _) (by omega)
        rw [qaa z] at z2
        exact O.tr _ _ _ z2 (qba O sb z y hy)
       ·rw [List.drop_of_length_le (by omega)] at hy
        simp at hy
      by_cases k20:k2 > 0
      ·rw [if_pos k20,qdS,qa1]
       by_cases e4:ib + 1 + k2=lb.length
       ·rw [if_pos (by simpa using e4)]
        exact wpS_pure ⟨⟨_,rfl⟩,.inl ⟨_,_,rfl,endB m4 e4⟩⟩
       rw [if_neg (by simpa using e4)]
       have m5:=m4.takeA sa hak fb2
       refine wpS_bind (qad (qam (show (ia + k) < la.length by omega)) ?_)
       rw [qaV]
       by_cases e5:(ia + k) + 1 + 1=la.length
       ·rw [if_pos (by simpa using e5)]
        exact wpS_pure ⟨⟨_,rfl⟩,.inl ⟨_,_,rfl,lastA m5 e5⟩⟩
       rw [if_neg (by simpa using e5)]
       split
       ·exact wpS_pure ⟨⟨_,rfl⟩,.inr ⟨_,_,_,_,_,_,rfl,⟨m5,by omega,by omega⟩,by simp; omega⟩⟩
       ·exact wpS_pure ⟨⟨_,rfl⟩,_,_,_,_,_,_,rfl,⟨m5,by omega,by omega⟩,by simp; omega⟩
      ·rw [if_neg k20]
       obtain rfl:k2=0:=by omega
       have m5:=m3.takeA sa hak (by simpa using fb2)
       refine wpS_bind (qad (qam (show (ia + k) < la.length by omega)) ?_)
       rw [qaV]
       by_cases e5:(ia + k) + 1 + 1=la.length
       ·rw [if_pos (by simpa using e5)]
        exact wpS_pure ⟨⟨_,rfl⟩,.inl ⟨_,_,rfl,lastA m5 e5⟩⟩
       rw [if_neg (by simpa using e5)]
       split
       ·exact wpS_pure ⟨⟨_,rfl⟩,.inr ⟨_,_,_,_,_,_,rfl,⟨m5,by omega,by omega⟩,by simp; omega⟩⟩
       ·exact wpS_pure ⟨⟨_,rfl⟩,_,_,_,_,_,_,rfl,⟨m5,by omega,by omega⟩,by simp; omega⟩
     ·rw [if_neg k0]
      obtain rfl:k=0:=by omega
      replace m2:=j.mg
      have hak:ia < la.length:=by omega
      have cut:c lb[ib] la[ia]=true:=hB2 ia (by omega) hak
      have m3:=m2.takeB sb hb fun y hy=>O.tr _ _ _ (O.asym _ _ cut) (qba O sa hak y hy)
      refine wpS_bind (qad (qam hb) ?_)
      rw [qaV]
      by_cases e3:ib + 1=lb.length
      ·rw [if_pos (by simpa using e3)]
       exact wpS_pure ⟨⟨_,rfl⟩,.inl ⟨_,_,rfl,endB m3 e3⟩⟩
      rw [if_neg (by simpa using e3)]
      refine wpS_bind (qad (qam hak) ?_)
      refine wpS_bind (qaq (st:=qar st (mg - 1)) (fun i=>c (lb.getD (ib + 1 + i) 0) la[ia]) (fun i j' hij hj q=>?_) (by rw [qaj]; omega) (fun i hi=>⟨kv (lb.getD (ib + 1 + i) 0),?_,fun Q' _ hQ=>gt _ (List.getElem_mem _) _ (getD_mem (by rw [qaj] at hi; omega)) _ _ hQ,fun Q' z _=>absurd z (by decide)⟩) fun k2 hk2 hT hF=>?_)
      ·rw [qaj] at hj
       rw [qaa (show ib + 1 + i < lb.length by omega)]
       rw [qaa (show ib + 1 + j' < lb.length by omega)] at q
       exact qcz O sb (by omega) (by omega) (by omega) q
      ·rw [qaj] at hi
       rw [qam (show ib + 1 + i < lb.length by omega),qaa (show ib + 1 + i < lb.length by omega)]
      rw [qaj] at hk2 hF
      dsimp only
      have m4:=m3.takeBs O sa sb hak k2 (by omega) fun i hi q=>by
       have:=hT i hi
       rwa [qaa (show ib + 1 + i < lb.length by omega)] at this
      have fb2:∀ y∈lb.drop (ib + 1 + k2),c y la[ia]=false:=fun y hy=>by
       by_cases z:ib + 1 + k2 < lb.length
       ·have z2:=hF k2 (Nat.le_refl _) (by omega)
        rw [qaa z] at z2
        exact O.tr _ _ _ z2 (qba O sb z y hy)
       ·rw [List.drop_of_length_le (by omega)] at hy
        simp at hy
      by_cases k20:k2 > 0
      ·rw [if_pos k20,qdS,qa1]
       by_cases e4:ib + 1 + k2=lb.length
       ·rw [if_pos (by simpa using e4)]
        exact wpS_pure ⟨⟨_,rfl⟩,.inl ⟨_,_,rfl,endB m4 e4⟩⟩
       rw [if_neg (by simpa using e4)]
       have m5:=m4.takeA sa hak fb2
       refine wpS_bind (qad (qam (show ia < la.length by omega)) ?_)
       rw [qaV]
       by_cases e5:ia + 1 + 1=la.length
       ·rw [if_pos (by simpa using e5)]
        exact wpS_pure ⟨⟨_,rfl⟩,.inl ⟨_,_,rfl,lastA m5 e5⟩⟩
       rw [if_neg (by simpa using e5)]
       split
       ·exact wpS_pure ⟨⟨_,rfl⟩,.inr ⟨_,_,_,_,_,_,rfl,⟨m5,by omega,by omega⟩,by simp; omega⟩⟩
       ·exact wpS_pure ⟨⟨_,rfl⟩,_,_,_,_,_,_,rfl,⟨m5,by omega,by omega⟩,by simp; omega⟩
      ·rw [if_neg k20]
       obtain rfl:k2=0:=by omega
       have m5:=m3.takeA sa hak (by simpa using fb2)
       refine wpS_bind (qad (qam (show ia < la.length by omega)) ?_)
       rw [qaV]
       by_cases e5:ia + 1 + 1=la.length
       ·rw [if_pos (by simpa using e5)]
        exact wpS_pure ⟨⟨_,rfl⟩,.inl ⟨_,_,rfl,lastA m5 e5⟩⟩
       rw [if_neg (by simpa using e5)]
       split
       ·exact wpS_pure ⟨⟨_,rfl⟩,.inr ⟨_,_,_,_,_,_,rfl,⟨m5,by omega,by omega⟩,by simp; omega⟩⟩
       ·exact wpS_pure ⟨⟨_,rfl⟩,_,_,_,_,_,_,rfl,⟨m5,by omega,by omega⟩,by simp; omega⟩
    ·rw [if_neg gg]
     refine wpS_bind (wpS_modify ?_)
     refine wpS_bind (qad (qam hb) ?_)
     refine wpS_bind (qaq (st:=qar st (mg)) (fun i=>!(c lb[ib] (la.getD (ia + i) 0))) (fun i j' hij hj q=>?_) (by rw [qaj]; omega) (fun i hi=>⟨kv (la.getD (ia + i) 0),?_,fun Q' z _=>absurd z (by decide),fun Q' _ hQ=>gt _ (getD_mem (by rw [qaj] at hi; omega)) _ (List.getElem_mem _) _ _ (by simpa using hQ)⟩) fun k hk hT hF=>?_)
     ·rw [qaj] at hj
      rw [qaa (show ia + i < la.length by omega)]
      rw [qaa (show ia + j' < la.length by omega)] at q
      have q':c lb[ib] la[ia + j']=false:=by simpa using q
      have:=O.tr _ _ _ (qbY O sa (i:=ia + i) (j:=ia + j') (by omega) (by omega)) q'
      simpa using qfu O sa (by omega) (by omega) (by omega) q'
     ·rw [qaj] at hi
      rw [qam (show ia + i < la.length by omega),qaa (show ia + i < la.length by omega)]
     rw [qaj] at hk hF
     dsimp only
     have m2:=j.mg.takeAs O sa sb hb k (by omega) fun i hi q=>by
      have:=hT i hi
      rw [qaa q] at this
      simpa using this
     have hB2:∀ p,ia + k≤p->∀ q:p < la.length,c lb[ib] la[p]=true:=fun p hp q=>by
      have:=hF (p - ia) (by omega) (by omega)
      rw [show ia + (p - ia)=p by omega,qaa q] at this
      simpa using this
     by_cases k0:k > 0
     ·rw [if_pos k0,qdS,qa1]
      by_cases e1:ia + k + 1=la.length
      ·rw [if_pos (by simpa using e1)]
       exact wpS_pure ⟨⟨_,rfl⟩,.inl ⟨_,_,rfl,lastA m2 e1⟩⟩
      rw [if_neg (by simpa using e1)]
      by_cases e2:ia + k=la.length
      ·rw [if_pos (by simpa using e2)]
       exact wpS_pure ⟨⟨_,rfl⟩,.inl ⟨_,_,rfl,endA m2 e2⟩⟩
      rw [if_neg (by simpa using e2)]
      have hak:(ia + k) < la.length:=by omega
      have cut:c lb[ib] la[(ia + k)]=true:=hB2 (ia + k) (by omega) hak
      have m3:=m2.takeB sb hb fun y hy=>O.tr _ _ _ (O.asym _ _ cut) (qba O sa hak y hy)
      refine wpS_bind (qad (qam hb) ?_)
      rw [qaV]
      by_cases e3:ib + 1=lb.length
      ·rw [if_pos (by simpa using e3)]
       exact wpS_pure ⟨⟨_,rfl⟩,.inl ⟨_,_,rfl,endB m3 e3⟩⟩
      rw [if_neg (by simpa using e3)]
      refine wpS_bind (qad (qam hak) ?_)
      refine wpS_bind (qaq (st:=qar st (mg)) (fun i=>c (lb.getD (ib + 1 + i) 0) la[(ia + k)]) (fun i j' hij hj q=>?_) (by rw [qaj]; omega) (fun i hi=>⟨kv (lb.getD (ib + 1 + i) 0),?_,fun Q' _ hQ=>gt _ (List.getElem_mem _) _ (getD_mem (by rw [qaj] at hi; omega)) _ _ hQ,fun Q' z _=>absurd z (by decide)⟩) fun k2 hk2 hT hF=>?_)
      ·rw [qaj] at hj
       rw [qaa (show ib + 1 + i < lb.length by omega)]
       rw [qaa (show ib + 1 + j' < lb.length by omega)] at q
       exact qcz O sb (by omega) (by omega) (by omega) q
      ·rw [qaj] at hi
       rw [qam (show ib + 1 + i < lb.length by omega),qaa (show ib + 1 + i < lb.length by omega)]
      rw [qaj] at hk2 hF
      dsimp only
      have m4:=m3.takeBs O sa sb hak k2 (by omega) fun i hi q=>by
       have:=hT i hi
       rwa [qaa (show ib + 1 + i < lb.length by omega)] at this
      have fb2:∀ y∈lb.drop (ib + 1 + k2),c y la[(ia + k)]=false:=fun y hy=>by
       by_cases z:ib + 1 + k2 < lb.length
       ·have z2:=hF k2 (Nat.le_refl _) (by omega)
        rw [qaa z] at z2
        exact O.tr _ _ _ z2 (qba O sb z y hy)
       ·rw [List.drop_of_length_le (by omega)] at hy
        simp at hy
      by_cases k20:k2 > 0
      ·rw [if_pos k20,qdS,qa1]
       by_cases e4:ib + 1 + k2=lb.length
       ·rw [if_pos (by simpa using e4)]
        exact wpS_pure ⟨⟨_,rfl⟩,.inl ⟨_,_,rfl,endB m4 e4⟩⟩
       rw [if_neg (by simpa using e4)]
       have m5:=m4.takeA sa hak fb2
       refine wpS_bind (qad (qam (show (ia + k) < la.length by omega)) ?_)
       rw [qaV]
       by_cases e5:(ia + k) + 1 + 1=la.length
       ·rw [if_pos (by simpa using e5)]
        exact wpS_pure ⟨⟨_,rfl⟩,.inl ⟨_,_,rfl,lastA m5 e5⟩⟩
       rw [if_neg (by simpa using e5)]
       split
       ·exact wpS_pure ⟨⟨_,rfl⟩,.inr ⟨_,_,_,_,_,_,rfl,⟨m5,by omega,by omega⟩,by simp; omega⟩⟩
       ·exact wpS_pure ⟨⟨_,rfl⟩,_,_,_,_,_,_,rfl,⟨m5,by omega,by omega⟩,by simp; omega⟩
      ·rw [if_neg k20]
       obtain rfl:k2=0:=by omega
       have m5:=m3.takeA sa hak (by simpa using fb2)
       refine wpS_bind (qad (qam (show (ia + k) < la.length by omega)) ?_)
       rw [qaV]
       by_cases e5:(ia + k) + 1 + 1=la.length
       ·rw [if_pos (by simpa using e5)]
        exact wpS_pure ⟨⟨_,rfl⟩,.inl ⟨_,_,rfl,lastA m5 e5⟩⟩
       rw [if_neg (by simpa using e5)]
       split
       ·exact wpS_pure ⟨⟨_,rfl⟩,.inr ⟨_,_,_,_,_,_,rfl,⟨m5,by omega,by omega⟩,by simp; omega⟩⟩
       ·exact wpS_pure ⟨⟨_,rfl⟩,_,_,_,_,_,_,rfl,⟨m5,by omega,by omega⟩,by simp; omega⟩
     ·rw [if_neg k0]
      obtain rfl:k=0:=by omega
      replace m2:=j.mg
      have hak:ia < la.length:=by omega
      have cut:c lb[ib] la[ia]=true:=hB2 ia (by omega) hak
      have m3:=m2.takeB sb hb fun y hy=>O.tr _ _ _ (O.asym _ _ cut) (qba O sa hak y hy)
      refine wpS_bind (qad (qam hb) ?_)
      rw [qaV]
      by_cases e3:ib + 1=lb.length
      ·rw [if_pos (by simpa using e3)]
       exact wpS_pure ⟨⟨_,rfl⟩,.inl ⟨_,_,rfl,endB m3 e3⟩⟩
      rw [if_neg (by simpa using e3)]
      refine wpS_bind (qad (qam hak) ?_)
      refine wpS_bind (qaq (st:=qar st (mg)) (fun i=>c (lb.getD (ib + 1 + i) 0) la[ia]) (fun i j' hij hj q=>?_) (by rw [qaj]; omega) (fun i hi=>⟨kv (lb.getD (ib + 1 + i) 0),?_,fun Q' _ hQ=>gt _ (List.getElem_mem _) _ (getD_mem (by rw [qaj] at hi; omega)) _ _ hQ,fun Q' z _=>absurd z (by decide)⟩) fun k2 hk2 hT hF=>?_)
      ·rw [qaj] at hj
       rw [qaa (show ib + 1 + i < lb.length by omega)]
       rw [qaa (show ib + 1 + j' < lb.length by omega)] at q
       exact qcz O sb (by omega) (by omega) (by omega) q
      ·rw [qaj] at hi
       rw [qam (show ib + 1 + i < lb.length by omega),qaa (show ib + 1 + i < lb.length by omega)]
      rw [qaj] at hk2 hF
      dsimp only
      have m4:=m3.takeBs O sa sb hak k2 (by omega) fun i hi q=>by
       have:=hT i hi
       rwa [qaa (show ib + 1 + i < lb.length by omega)] at this
      have fb2:∀ y∈lb.drop (ib + 1 + k2),c y la[ia]=false:=fun y hy=>by
       by_cases z:ib + 1 + k2 < lb.length
       ·have z2:=hF k2 (Nat.le_refl _) (by omega)
        rw [qaa z] at z2
        exact O.tr _ _ _ z2 (qba O sb z y hy)
       ·rw [List.drop_of_length_le (by omega)] at hy
        simp at hy
      by_cases k20:k2 > 0
      ·rw [if_pos k20,qdS,qa1]
       by_cases e4:ib + 1 + k2=lb.length
       ·rw [if_pos (by simpa using e4)]
        exact wpS_pure ⟨⟨_,rfl⟩,.inl ⟨_,_,rfl,endB m4 e4⟩⟩
       rw [if_neg (by simpa using e4)]
       have m5:=m4.takeA sa hak fb2
       refine wpS_bind (qad (qam (show ia < la.length by omega)) ?_)
       rw [qaV]
       by_cases e5:ia + 1 + 1=la.length
       ·rw [if_pos (by simpa using e5)]
        exact wpS_pure ⟨⟨_,rfl⟩,.inl ⟨_,_,rfl,lastA m5 e5⟩⟩
       rw [if_neg (by simpa using e5)]
       split
       ·exact wpS_pure ⟨⟨_,rfl⟩,.inr ⟨_,_,_,_,_,_,rfl,⟨m5,by omega,by omega⟩,by simp; omega⟩⟩
       ·exact wpS_pure ⟨⟨_,rfl⟩,_,_,_,_,_,_,rfl,⟨m5,by omega,by omega⟩,by simp; omega⟩
      ·rw [if_neg k20]
       obtain rfl:k2=0:=by omega
       have m5:=m3.takeA sa hak (by simpa using fb2)
       refine wpS_bind (qad (qam (show ia < la.length by omega)) ?_)
       rw [qaV]
       by_cases e5:ia + 1 + 1=la.length
       ·rw [if_pos (by simpa using e5)]
        exact wpS_pure ⟨⟨_,rfl⟩,.inl ⟨_,_,rfl,lastA m5 e5⟩⟩
       rw [if_neg (by simpa using e5)]
       split
       ·exact wpS_pure ⟨⟨_,rfl⟩,.inr ⟨_,_,_,_,_,_,rfl,⟨m5,by omega,by omega⟩,by simp; omega⟩⟩
       ·exact wpS_pure ⟨⟨_,rfl⟩,_,_,_,_,_,_,rfl,⟨m5,by omega,by omega⟩,by simp; omega⟩
   ·rintro z st' ⟨⟨g',rfl⟩,lo2,ia,ib,mg,ac,bc,rfl,j,hlen2⟩
    have:=j.mg.size
    have:=j.ha
    have:=j.hb
    simp at hlen2
    omega
   ·rintro z st' ⟨⟨g',rfl⟩,⟨r,t,rfl,hr⟩ | ⟨lo2,ia,ib,mg,ac,bc,rfl,j,hlen2⟩⟩
    ·exact wpS_pure ⟨⟨g',rfl⟩,_,_,rfl,hr⟩
    dsimp only
    refine wpS_bind (wpS_modify ?_)
    exact wpS_pure ⟨⟨_,rfl⟩,_,_,_,_,rfl,j,by omega⟩
 ·rintro z st' ⟨⟨g,rfl⟩,lo,ia,ib,mg,rfl,j,hlen⟩
  have:=j.mg.size
  have:=j.ha
  have:=j.hb
  simp at hlen
  omega
 ·rintro z st' ⟨⟨g,rfl⟩,r,t,rfl,hr⟩
  exact wpS_pure (h r g hr)
end
def qkp:Array Keyed->Array Keyed->StateT SortSt Sem (Array Keyed):=sortPriv% PySem.Builtin.mergeHi
structure Mh (c:Nat->Nat->Bool)(la lb lo:List Nat)(na nb:Nat):Prop where
 perm:(la.take na ++ lb.take nb ++ lo).Perm (la ++ lb)
 srt:Asc c lo
 fa:∀ x∈la.take na,∀ y∈lo,c y x=false
 fb:∀ x∈lb.take nb,∀ y∈lo,c y x=false
section
variable {c:Nat->Nat->Bool}{la lb lo:List Nat}{na nb:Nat}
theorem qbt {l:List Nat}{n:Nat}(h:n < l.length):l.take (n + 1)=l.take n ++ [l[n]]:=List.take_succ_eq_append_getElem h
theorem qd6 (O:Ord c){l:List Nat}(s:Asc c l){i:Nat}(hi:i < l.length):∀ y∈l.take (i + 1),c l[i] y=false:=by
 intro y hy
 obtain ⟨j,hj,rfl⟩:=List.mem_iff_getElem.mp hy
 rw [List.length_take] at hj
 rw [List.getElem_take]
 exact qbY O s (by omega) hi
theorem Mh.takeA (O:Ord c)(h:Mh c la lb lo (na + 1) nb)(sa:Asc c la)(hi:na < la.length)(hb:∀ y∈lb.take nb,c la[na] y=false):Mh c la lb (la[na] :: lo) na nb:=by
 have e:=qbt hi
 have p:=h.perm
 have fa:=h.fa
 rw [e] at p fa
 refine ⟨?_,?_,?_,?_⟩
 ·refine List.Perm.trans ?_ p
  have q:=List.perm_middle (a:=la[na]) (l₁:=la.take na ++ lb.take nb) (l₂:=lo)
  have q2:=(List.perm_middle (a:=la[na]) (l₁:=la.take na) (l₂:=lb.take nb ++ lo)).symm
  refine q.trans ?_
  simpa only [List.append_assoc,List.cons_append,List.nil_append] using q2
 ·exact List.pairwise_cons.mpr ⟨fun y hy=>fa _ (List.mem_append_right _ List.mem_cons_self) y hy,h.srt⟩
 ·intro x hx y hy
  rcases List.mem_cons.mp hy with ey | q
  ·rw [ey]; exact qd6 O sa hi x (by rw [e]; exact List.mem_append_left _ hx)
  ·exact fa x (List.mem_append_left _ hx) y q
 ·intro x hx y hy
  rcases List.mem_cons.mp hy with ey | q
  ·rw [ey]; exact hb x hx
  ·exact h.fb x hx y q
theorem Mh.takeB (O:Ord c)(h:Mh c la lb lo na (nb + 1))(sb:Asc c lb)(hi:nb < lb.length)(ha:∀ y∈la.take na,c lb[nb] y=false):Mh c la lb (lb[nb] :: lo) na nb:=by
 have e:=qbt hi
 have p:=h.perm
 have fb:=h.fb
 rw [e] at p fb
 refine ⟨?_,?_,?_,?_⟩
 ·refine List.Perm.trans ?_ p
  simp only [List.append_assoc,List.cons_append,List.nil_append]
  exact List.Perm.refl _
 ·exact List.pairwise_cons.mpr ⟨fun y hy=>fb _ (List.mem_append_right _ List.mem_cons_self) y hy,h.srt⟩
 ·intro x hx y hy
  rcases List.mem_cons.mp hy with ey | q
  ·rw [ey]; exact ha x hx
  ·exact h.fa x hx y q
 ·intro x hx y hy
  rcases List.mem_cons.mp hy with ey | q
  ·rw [ey]; exact qd6 O sb hi x (by rw [e]; exact List.mem_append_left _ hx)
  ·exact fb x (List.mem_append_left _ hx) y q
theorem Mh.takeAs (O:Ord c)(sa:Asc c la)(sb:Asc c lb)(hb1:0 < nb)(hb:nb≤lb.length):∀ (k na:Nat) {lo:List Nat},Mh c la lb lo na nb->k≤na->na≤la.length->(∀ p,na - k≤p->p < na->∀ q:p < la.length,c lb[nb - 1] la[p]=true)->Mh c la lb ((la.take na).drop (na - k) ++ lo) (na - k) nb
 | 0,na,lo,h,_,hn,_=>by
  rw [Nat.sub_zero,List.drop_of_length_le (by rw [List.length_take]; omega)]
  exact h
 | k + 1,na,lo,h,hk,hn,hc=>by
  obtain ⟨n,rfl⟩:∃ n,na=n + 1:=⟨na - 1,by omega⟩
  have hq:n < la.length:=by omega
  have h2:=h.takeA O sa hq fun y hy=>by
   obtain ⟨j,hj,rfl⟩:=List.mem_iff_getElem.mp hy
   rw [List.length_take] at hj
   rw [List.getElem_take]
   exact O.tr _ _ _ (qbY O sb (i:=j) (j:=nb - 1) (by omega) (by omega)) (O.asym _ _ (hc n (by omega) (by omega) hq))
  have:=Mh.takeAs O sa sb hb1 hb k n h2 (by omega) (by omega) fun p h1 h3 q=>hc p (by omega) (by omega) q
  have e:(la.take (n + 1)).drop (n + 1 - (k + 1))=(la.take n).drop (n - k) ++ [la[n]]:=by
   rw [qbt hq,show n + 1 - (k + 1)=n - k by omega,List.drop_append_of_le_length (by rw [List.length_take]; omega)]
  rw [e,List.append_assoc,show n + 1 - (k + 1)=n - k by omega]
  exact this
theorem Mh.takeBs (O:Ord c)(sa:Asc c la)(sb:Asc c lb)(ha1:0 < na)(ha:na≤la.length):∀ (k nb:Nat) {lo:List Nat},Mh c la lb lo na nb->k≤nb->nb≤lb.length->(∀ p,nb - k≤p->p < nb->∀ q:p < lb.length,c lb[p] la[na - 1]=false)->Mh c la lb ((lb.take nb).drop (nb - k) ++ lo) na (nb - k)
 | 0,nb,lo,h,_,hn,_=>by
  rw [Nat.sub_zero,List.drop_of_length_le (by rw [List.length_take]; omega)]
  exact h
 | k + 1,nb,lo,h,hk,hn,hc=>by
  obtain ⟨n,rfl⟩:∃ n,nb=n + 1:=⟨nb - 1,by omega⟩
  have hq:n < lb.length:=by omega
  have h2:=h.takeB O sb hq fun y hy=>by
   obtain ⟨j,hj,rfl⟩:=List.mem_iff_getElem.mp hy
   rw [List.length_take] at hj
   rw [List.getElem_take]
   exact O.tr _ _ _ (qbY O sa (i:=j) (j:=na - 1) (by omega) (by omega)) (hc n (by omega) (by omega) hq)
  have:=Mh.takeBs O sa sb ha1 ha k n h2 (by omega) (by omega) fun p h1 h3 q=>hc p (by omega) (by omega) q
  have e:(lb.take (n + 1)).drop (n + 1 - (k + 1))=(lb.take n).drop (n - k) ++ [lb[n]]:=by
   rw [qbt hq,show n + 1 - (k + 1)=n - k by omega,List.drop_append_of_le_length (by rw [List.length_take]; omega)]
  rw [e,List.append_assoc,show n + 1 - (k + 1)=n - k by omega]
  exact this
theorem Mh.endA (h:Mh c la lb lo 0 nb)(sb:Asc c lb):(lb.take nb ++ lo).Perm (la ++ lb)/\Asc c (lb.take nb ++ lo):=by
 have p:=h.perm
 rw [List.take_zero,List.nil_append] at p
 exact ⟨p,List.pairwise_append.mpr ⟨sb.sublist (List.take_sublist _ _),h.srt,fun x hx y hy=>h.fb x hx y hy⟩⟩
theorem Mh.endB (h:Mh c la lb lo na 0)(sa:Asc c la):(la.take na ++ lo).Perm (la ++ lb)/\Asc c (la.take na ++ lo):=by
 have p:=h.perm
 rw [List.take_zero,List.append_nil] at p
 exact ⟨p,List.pairwise_append.mpr ⟨sa.sublist (List.take_sublist _ _),h.srt,fun x hx y hy=>h.fa x hx y hy⟩⟩
theorem Mh.first (h:Mh c la lb lo na 1)(sa:Asc c la)(b1:0 < lb.length)(hl:∀ y∈la,c y lb[0]=false):(lb.take 1 ++ la.take na ++ lo).Perm (la ++ lb)/\Asc c (lb.take 1 ++ la.take na ++ lo):=by
 have e:lb.take 1=[lb[0]]:=by rw [qbt b1]; rfl
 refine ⟨List.Perm.trans (List.Perm.append_right _ List.perm_append_comm) h.perm,?_⟩
 refine List.pairwise_append.mpr ⟨List.pairwise_append.mpr ⟨by rw [e]; exact List.pairwise_singleton _ _,sa.sublist (List.take_sublist _ _),fun x hx y hy=>?_⟩,h.srt,fun x hx y hy=>?_⟩
 ·rw [e] at hx
  rw [List.mem_singleton.mp hx]
  exact hl y (List.mem_of_mem_take hy)
 ·rcases List.mem_append.mp hx with q | q
  ·exact h.fb x q y hy
  ·exact h.fa x q y hy
theorem Mh.size (h:Mh c la lb lo na nb)(ha:na≤la.length)(hb:nb≤lb.length):na + nb + lo.length=la.length + lb.length:=by
 have:=h.perm.length_eq
 simp only [List.length_append,List.length_take] at this
 omega
end
section
variable {prog:Program}{w:World}{A:Around}{E:Value->Shared->Prop}{s:Shared}
theorem qgP (kv:Nat->Keyed)(l:List Nat):(kvs kv l).reverse=kvs kv l.reverse:=by simp
theorem qco (kv:Nat->Keyed)(l:List Nat)(i n:Nat):(kvs kv l).extract i n=kvs kv ((l.take n).drop i):=by
 apply Array.toList_inj.mp
 simp only [Array.toList_extract,List.extract_eq_take_drop]
 rw [<- List.map_drop,<- List.map_take]
 congr 1
 rw [List.drop_take]
theorem qcK (kv:Nat->Keyed)(l:List Nat)(n:Nat):(kvs kv l).extract 0 n=kvs kv (l.take n):=by rw [qco,List.drop_zero]
structure Jh (c:Nat->Nat->Bool)(la lb lo:List Nat)(na nb:Nat):Prop where
 mh:Mh c la lb lo na nb
 a0:0 < na
 a1:na≤la.length
 b0:1 < nb
 b1:nb≤lb.length
theorem qfw {c:Nat->Nat->Bool}(O:Ord c){kv:Nat->Keyed}{la lb:List Nat}{st:SortSt}{Q:Array Keyed->SortSt->Prop}(sa:Asc c la)(sb:Asc c lb)(a1:1≤la.length)(b1:1≤lb.length)
  (gt:∀ x∈la,∀ y∈lb,∀ (g:Nat) (Q:Option Bool->SortSt->Prop),Q (some (c y x)) (qar st g)->wpS (model prog w) A E s (lt' (kv y) (kv x)) Q (qar st g))
  (hl:∀ y∈lb,c la[la.length - 1] y=false) (hf:∀ y∈la,c y lb[0]=false)
  (h:∀ (r:Array Keyed) (g:Nat),Fin' c kv la lb r->Q r (qar st g)):wpS (model prog w) A E s (qkp (kvs kv la) (kvs kv lb)) Q st:=by
 have m1:Mh c la lb [la[la.length - 1]] (la.length - 1) lb.length:=by
  have m0:Mh c la lb [] (la.length - 1 + 1) lb.length:=⟨by rw [List.take_of_length_le (by omega),List.take_of_length_le (by omega)]; simp,.nil,fun x hx y hy=>by simp at hy,fun x hx y hy=>by simp at hy⟩
  exact m0.takeA O sa (by omega) fun y hy=>hl y (List.mem_of_mem_take hy)
 have firstB:∀ {lo:List Nat} {na nb:Nat},Mh c la lb lo na nb->nb=1->Fin' c kv la lb ((kvs kv lb).extract 0 nb ++ (kvs kv la).extract 0 na ++ (kvs kv lo.reverse).reverse):=by
  intro lo na nb m e
  subst e
  obtain ⟨p,q⟩:=m.first sa b1 hf
  exact ⟨_,by rw [qcK,qcK,qgP,List.reverse_reverse,qa1,qa1],p,q⟩
 have endA:∀ {lo:List Nat} {na nb:Nat},Mh c la lb lo na nb->na=0->Fin' c kv la lb ((kvs kv la).extract 0 na ++ (kvs kv lb).extract 0 nb ++ (kvs kv lo.reverse).reverse):=by
  intro lo na nb m e
  subst e
  obtain ⟨p,q⟩:=m.endA sb
  refine ⟨_,?_,p,q⟩
  rw [qcK,qcK,qgP,List.reverse_reverse,qa1,qa1,List.take_zero,List.nil_append]
 have endB:∀ {lo:List Nat} {na nb:Nat},Mh c la lb lo na nb->nb=0->Fin' c kv la lb ((kvs kv la).extract 0 na ++ (kvs kv lb).extract 0 nb ++ (kvs kv lo.reverse).reverse):=by
  intro lo na nb m e
  subst e
  obtain ⟨p,q⟩:=m.endB sa
  refine ⟨_,?_,p,q⟩
  rw [qcK,qcK,qgP,List.reverse_reverse,qa1,qa1,List.take_zero,List.append_nil]
 have push1:∀ (lo:List Nat) (x:Nat),(kvs kv lo.reverse).push (kv x)=kvs kv (x :: lo).reverse:=fun lo x=>by rw [qaV,List.reverse_cons]
 have app1:∀ (lo l:List Nat),kvs kv lo.reverse ++ (kvs kv l).reverse=kvs kv (l ++ lo).reverse:=fun lo l=>by rw [qgP,qa1,List.reverse_append]
 refine wpS_bind (wpS_lift (wpAny_rule ⟨rfl,?_⟩))
 refine wpS_bind (qad (x:=kv la[la.length - 1]) (by rw [qaj]; exact qam (by omega)) ?_)
 have e0:(#[kv la[la.length - 1]]:Array Keyed)=kvs kv [la[la.length - 1]].reverse:=rfl
 dsimp only
 rw [e0]
 simp only [qaj]
 by_cases c1:la.length - 1=0
 ·rw [if_pos (by simpa using c1)]
  exact wpS_pure (h _ (gallopOf st) (endA m1 c1))
 rw [if_neg (by simpa using c1)]
 by_cases c2:lb.length=1
 ·rw [if_pos (by simpa using c2)]
  exact wpS_pure (h _ (gallopOf st) (firstB m1 c2))
 rw [if_neg (by simpa using c2)]
 refine wpS_bind (wpS_get ?_)
 have j1:Jh c la lb [la[la.length - 1]] (la.length - 1) lb.length:=⟨m1,by omega,by omega,by omega,by omega⟩
 refine wpS_bind (wpS_mono (wpS_forRange (I:=fun x z st'=>(∃ g,st'=qar st g)/\∃ lo na nb mg,z=(none,na,nb,kvs kv lo.reverse,mg)/\Jh c la lb lo na nb/\1 + x≤lo.length)
  (Q:=fun z st'=>(∃ g,st'=qar st g)/\∃ r t,z=(some r,t)/\Fin' c kv la lb r) ?_ ?_ ⟨⟨gallopOf st,rfl⟩,_,_,_,_,rfl,j1,by simp⟩) ?_)
 ·rintro x z st' _ hx ⟨⟨g,rfl⟩,lo,na,nb,mg,rfl,j,hlen⟩
  dsimp only
  refine wpS_bind (wpS_mono (wpS_forRange (I:=fun x z st'=>st'=qar st g/\∃ lo' na nb ac bc,z=(none,na,nb,kvs kv lo'.reverse,ac,bc)/\Jh c la lb lo' na nb/\lo.length + x≤lo'.length)
   (Q:=fun z st'=>st'=qar st g/\((∃ r t,z=(some r,t)/\Fin' c kv la lb r)\/∃ lo' na nb ac bc,z=(none,na,nb,kvs kv lo'.reverse,ac,bc)/\Jh c la lb lo' na nb/\lo.length + 1≤lo'.length)) ?_ ?_ ⟨rfl,_,_,_,_,_,rfl,j,by simp⟩) ?_)
  ·rintro x z st' _ hx ⟨rfl,lo',na,nb,ac,bc,rfl,j,hlen'⟩
   have a0:=j.a0
   have a1':=j.a1
   have b0:=j.b0
   have b1':=j.b1
   obtain ⟨n,rfl⟩:∃ n,na=n + 1:=⟨na - 1,by omega⟩
   obtain ⟨m,rfl⟩:∃ m,nb=m + 1:=⟨nb - 1,by omega⟩
   have hn:n < la.length:=by omega
   have hm:m < lb.length:=by omega
   dsimp only
   simp only [Nat.add_sub_cancel]
   refine wpS_bind (qad (qam hm) (wpS_bind (qad (qam hn) ?_)))
   refine wpS_bind (gt _ (List.getElem_mem _) _ (List.getElem_mem _) g _ ?_)
   dsimp only
   cases hw:c lb[m] la[n] with
   | true =>
    simp only [if_true]
    have m2:=j.mh.takeA O sa hn fun y hy=>O.tr _ _ _ (qd6 O sb hm y hy) (O.asym _ _ hw)
    refine wpS_bind (qad (qam hn) ?_)
    rw [push1]
    by_cases e:n=0
    ·rw [if_pos (by simpa using e)]
     exact wpS_pure ⟨rfl,.inl ⟨_,_,rfl,endA m2 e⟩⟩
    ·rw [if_neg (by simpa using e)]
     have j2:Jh c la lb (la[n] :: lo') n (m + 1):=⟨m2,by omega,by omega,b0,b1'⟩
     split
     ·exact wpS_pure ⟨rfl,.inr ⟨_,_,_,_,_,rfl,j2,by simp; omega⟩⟩
     ·exact wpS_pure ⟨rfl,_,_,_,_,_,rfl,j2,by simp; omega⟩
   | false =>
    simp only [Bool.false_eq_true,if_false]
    have m2:=j.mh.takeB O sb hm fun y hy=>O.tr _ _ _ (qd6 O sa hn y hy) hw
    refine wpS_bind (qad (qam hm) ?_)
    rw [push1]
    by_cases e:m=1
    ·rw [if_pos (by simpa using e)]
     exact wpS_pure ⟨rfl,.inl ⟨_,_,rfl,firstB m2 e⟩⟩
    ·rw [if_neg (by simpa using e)]
     have j2:Jh c la lb (lb[m] :: lo') (n + 1) m:=⟨m2,a0,a1',by omega,by omega⟩
     split
     ·exact wpS_pure ⟨rfl,.inr ⟨_,_,_,_,_,rfl,j2,by simp; omega⟩⟩
     ·exact wpS_pure ⟨rfl,_,_,_,_,_,rfl,j2,by simp; omega⟩
  ·rintro z st' ⟨rfl,lo',na,nb,ac,bc,rfl,j,hlen'⟩
   have:=j.mh.size j.a1 j.b1
   have:=j.a0
   have:=j.b0
   simp at hlen'
   omega
  ·rintro z st' ⟨rfl,⟨r,t,rfl,hr⟩ | ⟨lo',na,nb,ac,bc,rfl,j,hlen'⟩⟩
   ·exact wpS_pure ⟨⟨g,rfl⟩,_,_,rfl,hr⟩
   dsimp only
   refine wpS_bind (wpS_lift (wpAny_rule ⟨rfl,?_⟩))
   refine wpS_bind (wpS_mono (wpS_forRange (I:=fun x z st'=>(∃ g,st'=qar st g)/\∃ lo'' na nb mg ac bc,z=(none,na,nb,kvs kv lo''.reverse,mg,ac,bc)/\Jh c la lb lo'' na nb/\lo'.length + x≤lo''.length)
    (Q:=fun z st'=>(∃ g,st'=qar st g)/\((∃ r t,z=(some r,t)/\Fin' c kv la lb r)\/∃ lo'' na nb mg ac bc,z=(none,na,nb,kvs kv lo''.reverse,mg,ac,bc)/\Jh c la lb lo'' na nb/\lo'.length≤lo''.length)) ?_ ?_ ⟨⟨g,rfl⟩,_,_,_,_,_,_,rfl,j,by simp⟩) ?_)
   ·rintro x z st' _ hx ⟨⟨g',rfl⟩,lo2,na,nb,mg,ac,bc,rfl,j,hlen2⟩
    have a0:=j.a0
    have a1':=j.a1
    have b0:=j.b0
    have b1':=j.b1
    obtain ⟨m,rfl⟩:∃ m,nb=m + 1:=⟨nb - 1,by omega⟩
    have hm:m < lb.length:=by omega
    dsimp only
    simp only [Nat.add_sub_cancel]
    by_cases gg:mg > 1
    ·rw [if_pos gg]
     refine wpS_bind (wpS_modify ?_)
     refine wpS_bind (qad (qam hm) ?_)
     refine wpS_bind (qaq (st:=qar st (mg - 1)) (fun i=>!(c lb[m] (la.getD i 0))) (fun i j' hij hj q=>?_) (by omega) (fun i hi=>⟨kv (la.getD i 0),?_,fun Q' z _=>absurd z (by decide),fun Q' _ hQ=>gt _ (getD_mem (by omega)) _ (List.getElem_mem _) _ _ (by simpa using hQ)⟩) fun k hk hT hF=>?_)
     ·rw [qaa (show i < la.length by omega)]
      rw [qaa (show j' < la.length by omega)] at q
      have q':c lb[m] la[j']=false:=by simpa using q
      simpa using qfu O sa (by omega) (by omega) (by omega) q'
     ·rw [Nat.zero_add,qam (show i < la.length by omega),qaa (show i < la.length by omega)]
     dsimp only
     have hlow:∀ y∈la.take k,c lb[m] y=false:=fun y hy=>by
      obtain ⟨i,hi,rfl⟩:=List.mem_iff_getElem.mp hy
      rw [List.length_take] at hi
      rw [List.getElem_take]
      have:=hT i (by omega)
      rw [qaa (show i < la.length by omega)] at this
      simpa using this
     have hhi:∀ p,k≤p->p < na->∀ q:p < la.length,c lb[m] la[p]=true:=fun p hp hp2 q=>by
      have:=hF p hp hp2
      rw [qaa q] at this
      simpa using this
     by_cases k0:na - k > 0
     ·have m2:=Mh.takeAs O sa sb (nb:=m + 1) (by omega) (by omega) (na - k) na j.mh (by omega) (by omega) fun p h1 h2 q=>hhi p (by omega) h2 q
      rw [show na - (na - k)=k by omega] at m2
      rw [if_pos k0,qco kv la k na,app1]
      by_cases e1:k=0
      ·rw [if_pos (by simpa using e1)]
       exact wpS_pure ⟨⟨_,rfl⟩,.inl ⟨_,_,rfl,endA m2 e1⟩⟩
      rw [if_neg (by simpa using e1)]
      obtain ⟨n3,rfl⟩:∃ n3,k=n3 + 1:=⟨k - 1,by omega⟩
      have hna:n3 < la.length:=by omega
      have m3:=m2.takeB O sb hm hlow
      refine wpS_bind (qad (qam hm) ?_)
      rw [push1]
      by_cases e3:m=1
      ·rw [if_pos (by simpa using e3)]
       exact wpS_pure ⟨⟨_,rfl⟩,.inl ⟨_,_,rfl,firstB m3 e3⟩⟩
      rw [if_neg (by simpa using e3)]
      simp only [Nat.add_sub_cancel]
      refine wpS_bind (qad (qam hna) ?_)
      refine wpS_bind (qaq (st:=qar st (mg - 1)) (fun i=>c (lb.getD i 0) la[n3]) (fun i j' hij hj q=>?_) (by omega) (fun i hi=>⟨kv (lb.getD i 0),?_,fun Q' _ hQ=>gt _ (List.getElem_mem _) _ (getD_mem (by omega)) _ _ hQ,fun Q' z _=>absurd z (by decide)⟩) fun k2 hk2 hT2 hF2=>?_)
      ·rw [qaa (show i < lb.length by omega)]
       rw [qaa (show j' < lb.length by omega)] at q
       exact qcz O sb (by omega) (by omega) (by omega) q
      ·rw [Nat.zero_add,qam (show i < lb.length by omega),qaa (show i < lb.length by omega)]
      dsimp only
      have low2:∀ p,p < k2->∀ q:p < lb.length,c lb[p] la[n3]=true:=fun p hp q=>by
       have:=hT2 p hp
       rwa [qaa q] at this
      have hi2:∀ p,k2≤p->p < m->∀ q:p < lb.length,c lb[p] la[n3]=false:=fun p hp hp2 q=>by
       have:=hF2 p hp hp2
       rwa [qaa q] at this
      have low3:∀ y∈lb.take k2,c la[n3] y=false:=fun y hy=>by
       obtain ⟨i,hi,rfl⟩:=List.mem_iff_getElem.mp hy
       rw [List.length_take] at hi
       rw [List.getElem_take]
       exact O.asym _ _ (low2 i (by omega) (by omega))
      by_cases k20:m - k2 > 0
      ·have m4:=Mh.takeBs O sa sb (na:=n3 + 1) (by omega) (by omega) (m - k2) m m3 (by omega) (by omega) fun p h1 h2 q=>hi2 p (by omega) h2 q
       rw [show m - (m - k2)=k2 by omega] at m4
       rw [if_pos k20,qco kv lb k2 m,app1]
       by_cases e4:k2=1
       ·rw [if_pos (by simpa using e4)]
        exact wpS_pure ⟨⟨_,rfl⟩,.inl ⟨_,_,rfl,firstB m4 e4⟩⟩
       rw [if_neg (by simpa using e4)]
       by_cases e6:k2=0
       ·rw [if_pos (by simpa using e6)]
        exact wpS_pure ⟨⟨_,rfl⟩,.inl ⟨_,_,rfl,endB m4 e6⟩⟩
       rw [if_neg (by simpa using e6)]
       have m5:=m4.takeA O sa hna low3
       refine wpS_bind (qad (qam hna) ?_)
       rw [push1]
       by_cases e5:n3=0
       ·rw [if_pos (by simpa using e5)]
        exact wpS_pure ⟨⟨_,rfl⟩,.inl ⟨_,_,rfl,endA m5 e5⟩⟩
       rw [if_neg (by simpa using e5)]
       split
       ·exact wpS_pure ⟨⟨_,rfl⟩,.inr ⟨_,_,_,_,_,_,rfl,⟨m5,by omega,by omega,by omega,by omega⟩,by simp; omega⟩⟩
       ·exact wpS_pure ⟨⟨_,rfl⟩,_,_,_,_,_,_,rfl,⟨m5,by omega,by omega,by omega,by omega⟩,by simp; omega⟩
      ·rw [if_neg k20]
       obtain rfl:m=k2:=by omega
       have m5:=m3.takeA O sa hna low3
       refine wpS_bind (qad (qam hna) ?_)
       rw [push1]
       by_cases e5:n3=0
       ·rw [if_pos (by simpa using e5)]
        exact wpS_pure ⟨⟨_,rfl⟩,.inl ⟨_,_,rfl,endA m5 e5⟩⟩
       rw [if_neg (by simpa using e5)]
       split
       ·exact wpS_pure ⟨⟨_,rfl⟩,.inr ⟨_,_,_,_,_,_,rfl,⟨m5,by omega,by omega,by omega,by omega⟩,by simp; omega⟩⟩
       ·exact wpS_pure ⟨⟨_,rfl⟩,_,_,_,_,_,_,rfl,⟨m5,by omega,by omega,by omega,by omega⟩,by simp; omega⟩
     ·rw [if_neg k0]
      obtain rfl:na=k:=by omega
      have m2:=j.mh
      obtain ⟨n3,rfl⟩:∃ n3,na=n3 + 1:=⟨na - 1,by omega⟩
      have hna:n3 < la.length:=by omega
      have m3:=m2.takeB O sb hm hlow
      refine wpS_bind (qad (qam hm) ?_)
      rw [push1]
      by_cases e3:m=1
      ·rw [if_pos (by simpa using e3)]
       exact wpS_pure ⟨⟨_,rfl⟩,.inl ⟨_,_,rfl,firstB m3 e3⟩⟩
      rw [if_neg (by simpa using e3)]
      simp only [Nat.add_sub_cancel]
      refine wpS_bind (qad (qam hna) ?_)
      refine wpS_bind (qaq (st:=qar st (mg - 1)) (fun i=>c (lb.getD i 0) la[n3]) (fun i j' hij hj q=>?_) (by omega) (fun i hi=>⟨kv (lb.getD i 0),?_,fun Q' _ hQ=>gt _ (List.getElem_mem _) _ (getD_mem (by omega)) _ _ hQ,fun Q' z _=>absurd z (by decide)⟩) fun k2 hk2 hT2 hF2=>?_)
      ·rw [qaa (show i < lb.length by omega)]
       rw [qaa (show j' < lb.length by omega)] at q
       exact qcz O sb (by omega) (by omega) (by omega) q
      ·rw [Nat.zero_add,qam (show i < lb.length by omega),qaa (show i < lb.length by omega)]
      dsimp only
      have low2:∀ p,p < k2->∀ q:p < lb.length,c lb[p] la[n3]=true:=fun p hp q=>by
       have:=hT2 p hp
       rwa [qaa q] at this
      have hi2:∀ p,k2≤p->p < m->∀ q:p < lb.length,c lb[p] la[n3]=false:=fun p hp hp2 q=>by
       have:=hF2 p hp hp2
       rwa [qaa q] at this
      have low3:∀ y∈lb.take k2,c la[n3] y=false:=fun y hy=>by
       obtain ⟨i,hi,rfl⟩:=List.mem_iff_getElem.mp hy
       rw [List.length_take] at hi
       rw [List.getElem_take]
       exact O.asym _ _ (low2 i (by omega) (by omega))
      by_cases k20:m - k2 > 0
      ·have m4:=Mh.takeBs O sa sb (na:=n3 + 1) (by omega) (by omega) (m - k2) m m3 (by omega) (by omega) fun p h1 h2 q=>hi2 p (by omega) h2 q
       rw [show m - (m - k2)=k2 by omega] at m4
       rw [if_pos k20,qco kv lb k2 m,app1]
       by_cases e4:k2=1
       ·rw [if_pos (by simpa using e4)]
        exact wpS_pure ⟨⟨_,rfl⟩,.inl ⟨_,_,rfl,firstB m4 e4⟩⟩
       rw [if_neg (by simpa using e4)]
       by_cases e6:k2=0
       ·rw [if_pos (by simpa using e6)]
        exact wpS_pure ⟨⟨_,rfl⟩,.inl ⟨_,_,rfl,endB m4 e6⟩⟩
       rw [if_neg (by simpa using e6)]
       have m5:=m4.takeA O sa hna low3
       refine wpS_bind (qad (qam hna) ?_)
       rw [push1]
       by_cases e5:n3=0
       ·rw [if_pos (by simpa using e5)]
        exact wpS_pure ⟨⟨_,rfl⟩,.inl ⟨_,_,rfl,endA m5 e5⟩⟩
       rw [if_neg (by simpa using e5)]
       split
       ·exact wpS_pure ⟨⟨_,rfl⟩,.inr ⟨_,_,_,_,_,_,rfl,⟨m5,by omega,by omega,by omega,by omega⟩,by simp; omega⟩⟩
       ·exact wpS_pure ⟨⟨_,rfl⟩,_,_,_,_,_,_,rfl,⟨m5,by omega,by omega,by omega,by omega⟩,by simp; omega⟩
      ·rw [if_neg k20]
       obtain rfl:m=k2:=by omega
       have m5:=m3.takeA O sa hna low3
       refine wpS_bind (qad (qam hna) ?_)
       rw [push1]
       by_cases e5:n3=0
       ·rw [if_pos (by simpa using e5)]
        exact wpS_pure ⟨⟨_,rfl⟩,.inl ⟨_,_,rfl,endA m5 e5⟩⟩
       rw [if_neg (by simpa using e5)]
       split
       ·exact wpS_pure ⟨⟨_,rfl⟩,.inr ⟨_,_,_,_,_,_,rfl,⟨m5,by omega,by omega,by omega,by omega⟩,by simp; omega⟩⟩
       ·exact wpS_pure ⟨⟨_,rfl⟩,_,_,_,_,_,_,rfl,⟨m5,by omega,by omega,by omega,by omega⟩,by simp; omega⟩
    ·rw [if_neg gg]
     refine wpS_bind (wpS_modify ?_)
     refine wpS_bind (qad (qam hm) ?_)
     refine wpS_bind (qaq (st:=qar st (mg)) (fun i=>!(c lb[m] (la.getD i 0))) (fun i j' hij hj q=>?_) (by omega) (fun i hi=>⟨kv (la.getD i 0),?_,fun Q' z _=>absurd z (by decide),fun Q' _ hQ=>gt _ (getD_mem (by omega)) _ (List.getElem_mem _) _ _ (by simpa using hQ)⟩) fun k hk hT hF=>?_)
     ·rw [qaa (show i < la.length by omega)]
      rw [qaa (show j' < la.length by omega)] at q
      have q':c lb[m] la[j']=false:=by simpa using q
      simpa using qfu O sa (by omega) (by omega) (by omega) q'
     ·rw [Nat.zero_add,qam (show i < la.length by omega),qaa (show i < la.length by omega)]
     dsimp only
     have hlow:∀ y∈la.take k,c lb[m] y=false:=fun y hy=>by
      obtain ⟨i,hi,rfl⟩:=List.mem_iff_getElem.mp hy
      rw [List.length_take] at hi
      rw [List.getElem_take]
      have:=hT i (by omega)
      rw [qaa (show i < la.length by omega)] at this
      simpa using this
     have hhi:∀ p,k≤p->p < na->∀ q:p < la.length,c lb[m] la[p]=true:=fun p hp hp2 q=>by
      have:=hF p hp hp2
      rw [qaa q] at this
      simpa using this
     by_cases k0:na - k > 0
     ·have m2:=Mh.takeAs O sa sb (nb:=m + 1) (by omega) (by omega) (na - k) na j.mh (by omega) (by omega) fun p h1 h2 q=>hhi p (by omega) h2 q
      rw [show na - (na - k)=k by omega] at m2
      rw [if_pos k0,qco kv la k na,app1]
      by_cases e1:k=0
      ·rw [if_pos (by simpa using e1)]
       exact wpS_pure ⟨⟨_,rfl⟩,.inl ⟨_,_,rfl,endA m2 e1⟩⟩
      rw [if_neg (by simpa using e1)]
      obtain ⟨n3,rfl⟩:∃ n3,k=n3 + 1:=⟨k - 1,by omega⟩
      have hna:n3 < la.length:=by omega
      have m3:=m2.takeB O sb hm hlow
      refine wpS_bind (qad (qam hm) ?_)
      rw [push1]
      by_cases e3:m=1
      ·rw [if_pos (by simpa using e3)]
       exact wpS_pure ⟨⟨_,rfl⟩,.inl ⟨_,_,rfl,firstB m3 e3⟩⟩
      rw [if_neg (by simpa using e3)]
      simp only [Nat.add_sub_cancel]
      refine wpS_bind (qad (qam hna) ?_)
      refine wpS_bind (qaq (st:=qar st (mg)) (fun i=>c (lb.getD i 0) la[n3]) (fun i j' hij hj q=>?_) (by omega) (fun i hi=>⟨kv (lb.getD i 0),?_,fun Q' _ hQ=>gt _ (List.getElem_mem _) _ (getD_mem (by omega)) _ _ hQ,fun Q' z _=>absurd z (by decide)⟩) fun k2 hk2 hT2 hF2=>?_)
      ·rw [qaa (show i < lb.length by omega)]
       rw [qaa (show j' < lb.length by omega)] at q
       exact qcz O sb (by omega) (by omega) (by omega) q
      ·rw [Nat.zero_add,qam (show i < lb.length by omega),qaa (show i < lb.length by omega)]
      dsimp only
      have low2:∀ p,p < k2->∀ q:p < lb.length,c lb[p] la[n3]=true:=fun p hp q=>by
       have:=hT2 p hp
       rwa [qaa q] at this
      have hi2:∀ p,k2≤p->p < m->∀ q:p < lb.length,c lb[p] la[n3]=false:=fun p hp hp2 q=>by
       have:=hF2 p hp hp2
       rwa [qaa q] at this
      have low3:∀ y∈lb.take k2,c la[n3] y=false:=fun y hy=>by
       obtain ⟨i,hi,rfl⟩:=List.mem_iff_getElem.mp hy
       rw [List.length_take] at hi
       rw [List.getElem_take]
       exact O.asym _ _ (low2 i (by omega) (by omega))
      by_cases k20:m - k2 > 0
      ·have m4:=Mh.takeBs O sa sb (na:=n3 + 1) (by omega) (by omega) (m - k2) m m3 (by omega) (by omega) fun p h1 h2 q=>hi2 p (by omega) h2 q
       rw [show m - (m - k2)=k2 by omega] at m4
       rw [if_pos k20,qco kv lb k2 m,app1]
       by_cases e4:k2=1
       ·rw [if_pos (by simpa using e4)]
        exact wpS_pure ⟨⟨_,rfl⟩,.inl ⟨_,_,rfl,firstB m4 e4⟩⟩
       rw [if_neg (by simpa using e4)]
       by_cases e6:k2=0
       ·rw [if_pos (by simpa using e6)]
        exact wpS_pure ⟨⟨_,rfl⟩,.inl ⟨_,_,rfl,endB m4 e6⟩⟩
       rw [if_neg (by simpa using e6)]
       have m5:=m4.takeA O sa hna low3
       refine wpS_bind (qad (qam hna) ?_)
       rw [push1]
       by_cases e5:n3=0
       ·rw [if_pos (by simpa using e5)]
        exact wpS_pure ⟨⟨_,rfl⟩,.inl ⟨_,_,rfl,endA m5 e5⟩⟩
       rw [if_neg (by simpa using e5)]
       split
       ·exact wpS_pure ⟨⟨_,rfl⟩,.inr ⟨_,_,_,_,_,_,rfl,⟨m5,by omega,by omega,by omega,by omega⟩,by simp; omega⟩⟩
       ·exact wpS_pure ⟨⟨_,rfl⟩,_,_,_,_,_,_,rfl,⟨m5,by omega,by omega,by omega,by omega⟩,by simp; omega⟩
      ·rw [if_neg k20]
       obtain rfl:m=k2:=by omega
       have m5:=m3.takeA O sa hna low3
       refine wpS_bind (qad (qam hna) ?_)
       rw [push1]
       by_cases e5:n3=0
       ·rw [if_pos (by simpa using e5)]
        exact wpS_pure ⟨⟨_,rfl⟩,.inl ⟨_,_,rfl,endA m5 e5⟩⟩
       rw [if_neg (by simpa using e5)]
       split
       ·exact wpS_pure ⟨⟨_,rfl⟩,.inr ⟨_,_,_,_,_,_,rfl,⟨m5,by omega,by omega,by omega,by omega⟩,by simp; omega⟩⟩
       ·exact wpS_pure ⟨⟨_,rfl⟩,_,_,_,_,_,_,rfl,⟨m5,by omega,by omega,by omega,by omega⟩,by simp; omega⟩
     ·rw [if_neg k0]
      obtain rfl:na=k:=by omega
      have m2:=j.mh
      obtain ⟨n3,rfl⟩:∃ n3,na=n3 + 1:=⟨na - 1,by omega⟩
      have hna:n3 < la.length:=by omega
      have m3:=m2.takeB O sb hm hlow
      refine wpS_bind (qad (qam hm) ?_)
      rw [push1]
      by_cases e3:m=1
      ·rw [if_pos (by simpa using e3)]
       exact wpS_pure ⟨⟨_,rfl⟩,.inl ⟨_,_,rfl,firstB m3 e3⟩⟩
      rw [if_neg (by simpa using e3)]
      simp only [Nat.add_sub_cancel]
      refine wpS_bind (qad (qam hna) ?_)
      refine wpS_bind (qaq (st:=qar st (mg)) (fun i=>c (lb.getD i 0) la[n3]) (fun i j' hij hj q=>?_) (by omega) (fun i hi=>⟨kv (lb.getD i 0),?_,fun Q' _ hQ=>gt _ (List.getElem_mem _) _ (getD_mem (by omega)) _ _ hQ,fun Q' z _=>absurd z (by decide)⟩) fun k2 hk2 hT2 hF2=>?_)
      ·rw [qaa (show i < lb.length by omega)]
       rw [qaa (show j' < lb.length by omega)] at q
       exact qcz O sb (by omega) (by omega) (by omega) q
      ·rw [Nat.zero_add,qam (show i < lb.length by omega),qaa (show i < lb.length by omega)]
      dsimp only
      have low2:∀ p,p < k2->∀ q:p < lb.length,c lb[p] la[n3]=true:=fun p hp q=>by
       have:=hT2 p hp
       rwa [qaa q] at this
      have hi2:∀ p,k2≤p->p < m->∀ q:p < lb.length,c lb[p] la[n3]=false:=fun p hp hp2 q=>by
       have:=hF2 p hp hp2
       rwa [qaa q] at this
      have low3:∀ y∈lb.take k2,c la[n3] y=false:=fun y hy=>by
       obtain ⟨i,hi,rfl⟩:=List.mem_iff_getElem.mp hy
       rw [List.length_take] at hi
       rw [List.getElem_take]
       exact O.asym _ _ (low2 i (by omega) (by omega))
      by_cases k20:m - k2 > 0
      ·have m4:=Mh.takeBs O sa sb (na:=n3 + 1) (by omega) (by omega) (m - k2) m m3 (by omega) (by omega) fun p h1 h2 q=>hi2 p (by omega) h2 q
       rw [show m - (m - k2)=k2 by omega] at m4
       rw [if_pos k20,qco kv lb k2 m,app1]
       by_cases e4:k2=1
       ·rw [if_pos (by simpa using e4)]
        exact wpS_pure ⟨⟨_,rfl⟩,.inl ⟨_,_,rfl,firstB m4 e4⟩⟩
       rw [if_neg (by simpa using e4)]
       by_cases e6:k2=0
       ·rw [if_pos (by simpa using e6)]
        exact wpS_pure ⟨⟨_,rfl⟩,.inl ⟨_,_,rfl,endB m4 e6⟩⟩
       rw [if_neg (by simpa using e6)]
       have m5:=m4.takeA O sa hna low3
       refine wpS_bind (qad (qam hna) ?_)
       rw [push1]
       by_cases e5:n3=0
       ·rw [if_pos (by simpa using e5)]
        exact wpS_pure ⟨⟨_,rfl⟩,.inl ⟨_,_,rfl,endA m5 e5⟩⟩
       rw [if_neg (by simpa using e5)]
       split
       ·exact wpS_pure ⟨⟨_,rfl⟩,.inr ⟨_,_,_,_,_,_,rfl,⟨m5,by omega,by omega,by omega,by omega⟩,by simp; omega⟩⟩
       ·exact wpS_pure ⟨⟨_,rfl⟩,_,_,_,_,_,_,rfl,⟨m5,by omega,by omega,by omega,by omega⟩,by simp; omega⟩
      ·rw [if_neg k20]
       obtain rfl:m=k2:=by omega
       have m5:=m3.takeA O sa hna low3
       refine wpS_bind (qad (qam hna) ?_)
       rw [push1]
       by_cases e5:n3=0
       ·rw [if_pos (by simpa using e5)]
        exact wpS_pure ⟨⟨_,rfl⟩,.inl ⟨_,_,rfl,endA m5 e5⟩⟩
       rw [if_neg (by simpa using e5)]
       split
       ·exact wpS_pure ⟨⟨_,rfl⟩,.inr ⟨_,_,_,_,_,_,rfl,⟨m5,by omega,by omega,by omega,by omega⟩,by simp; omega⟩⟩
       ·exact wpS_pure ⟨⟨_,rfl⟩,_,_,_,_,_,_,rfl,⟨m5,by omega,by omega,by omega,by omega⟩,by simp; omega⟩
   ·rintro z st' ⟨⟨g',rfl⟩,lo2,na,nb,mg,ac,bc,rfl,j,hlen2⟩
    have:=j.mh.size j.a1 j.b1
    have:=j.a0
    have:=j.b0
    simp at hlen2
    omega
   ·rintro z st' ⟨⟨g',rfl⟩,⟨r,t,rfl,hr⟩ | ⟨lo2,na,nb,mg,ac,bc,rfl,j,hlen2⟩⟩
    ·exact wpS_pure ⟨⟨g',rfl⟩,_,_,rfl,hr⟩
    dsimp only
    refine wpS_bind (wpS_modify ?_)
    exact wpS_pure ⟨⟨_,rfl⟩,_,_,_,_,rfl,j,by omega⟩
 ·rintro z st' ⟨⟨g,rfl⟩,lo,na,nb,mg,rfl,j,hlen⟩
  have:=j.mh.size j.a1 j.b1
  have:=j.a0
  have:=j.b0
  simp at hlen
  omega
 ·rintro z st' ⟨⟨g,rfl⟩,r,t,rfl,hr⟩
  exact wpS_pure (h r g hr)
end
abbrev Rn:=List Nat × Nat
def flat (R:List Rn):List Nat:=(R.map (·.1)).flatten
def pend:Nat->List Rn->List (Nat × Nat × Nat)
 | _,[]=>[]
 | t,(l,w) :: r=>(t,l.length,w) :: pend (t + l.length) r
theorem qaZ:∀ (t:Nat) (R S:List Rn),pend t (R ++ S)=pend t R ++ pend (t + (flat R).length) S
 | t,[],S=>by simp [pend,flat]
 | t,(l,w) :: R,S=>by
  show (t,l.length,w) :: pend (t + l.length) (R ++ S)=_
  rw [qaZ (t + l.length) R S]
  show _=(t,l.length,w) :: (pend (t + l.length) R ++ pend (t + (flat ((l,w) :: R)).length) S)
  have:(flat ((l,w) :: R)).length=l.length + (flat R).length:=by simp [flat]
  rw [this,Nat.add_assoc]
theorem qaY:∀ (t:Nat) (R:List Rn),(pend t R).length=R.length
 | _,[]=>rfl
 | t,(l,w) :: R=>by show (pend (t + l.length) R).length + 1=_; rw [qaY]; rfl
theorem qg3 (kv:Nat->Keyed):∀ (l:List Nat) (pre old post:List Nat) (j:Nat),l.length=old.length->(((l.map kv).zipIdx j).foldl (fun a (x:Keyed × Nat)=>a.setIfInBounds (pre.length + x.2 - j) x.1) (kvs kv (pre ++ old ++ post)))=kvs kv (pre ++ l ++ post)
 | [],pre,old,post,j,h=>by
  have:old=[]:=List.length_eq_zero_iff.mp h.symm
  subst this; rfl
 | x :: l,pre,old,post,j,h=>by
  obtain ⟨o,old',rfl⟩:∃ o old',old=o :: old':=by
   cases old with
   | nil=>simp at h
   | cons o old'=>exact ⟨o,old',rfl⟩
  have ih:=qg3 kv l (pre ++ [x]) old' post (j + 1) (by simpa using h)
  rw [List.map_cons,List.zipIdx_cons,List.foldl_cons]
  have e1:(kvs kv (pre ++ o :: old' ++ post)).setIfInBounds (pre.length + j - j) (kv x)=kvs kv (pre ++ [x] ++ old' ++ post):=by
   apply Array.toList_inj.mp
   rw [Nat.add_sub_cancel]
   simp [List.set_append]
  show List.foldl _ ((kvs kv (pre ++ o :: old' ++ post)).setIfInBounds (pre.length + j - j) (kv x)) _=_
  rw [e1]
  rw [show pre ++ x :: l ++ post=pre ++ [x] ++ l ++ post by simp]
  rw [<- ih]
  congr 1
  funext a y
  congr 1
  simp
  omega
section
variable {prog:Program}{w:World}{A:Around}{E:Value->Shared->Prop}{s:Shared}
theorem qlm {σ:Type}{M:Model}{x st:σ}{Q:PUnit->σ->Prop}(h:Q ⟨⟩ x):wpS M A E s (set x:StateT σ Sem PUnit) Q st:=by
 unfold wpS; rw [StateT.run_set]; exact wpAny_pure ⟨rfl,h⟩
abbrev SS (κ:SortKind)(a:Array Keyed)(p:Array (Nat × Nat × Nat))(g:Nat):SortSt:=SortSt.mk' κ a p g none
structure Cmp (prog:Program)(w:World)(A:Around)(E:Value->Shared->Prop)(s:Shared)(c:Nat->Nat->Bool)(kv:Nat->Keyed)(κ:SortKind)(n:Nat):Prop where
 O:Ord c
 lt:∀ x y,In n x y->∀ (st:SortSt),kindOf st=κ->∀ Q:Option Bool->SortSt->Prop,Q (some (c x y)) st->wpS (model prog w) A E s (lt' (kv x) (kv y)) Q st
theorem qc5 {c:Nat->Nat->Bool}{kv:Nat->Keyed}{κ:SortKind}{n:Nat}(C:Cmp prog w A E s c kv κ n){R1 R2:List Rn}{la lb rest:List Nat}{w1 w2 g:Nat}{Q:Bool->SortSt->Prop}
  (pm:(flat R1 ++ la ++ lb ++ flat R2 ++ rest).Perm (List.range n)) (sa:Asc c la) (sb:Asc c lb) (a1:1≤la.length) (b1:1≤lb.length)
  (h:∀ (l:List Nat) (g':Nat),l.Perm (la ++ lb)->Asc c l->Q true (SS κ (kvs kv (flat R1 ++ l ++ flat R2 ++ rest)) (pend 0 (R1 ++ (l,w1) :: R2)).toArray g')) :
  wpS (model prog w) A E s (mergeAt' R1.length) Q (SS κ (kvs kv (flat R1 ++ la ++ lb ++ flat R2 ++ rest)) (pend 0 (R1 ++ (la,w1) :: (lb,w2) :: R2)).toArray g):=by
 have nd:(flat R1 ++ la ++ lb ++ flat R2 ++ rest).Nodup:=pm.nodup_iff.mpr List.nodup_range
 have ltn:∀ x∈la ++ lb,x < n:=fun x hx=>List.mem_range.mp (pm.mem_iff.mp (by
  simp only [List.mem_append] at hx ⊢
  rcases hx with q | q
  ·exact .inl (.inl (.inl (.inr q)))
  ·exact .inl (.inl (.inr q))))
 have dis:∀ x∈la,∀ y∈lb,x≠y:=fun x hx y hy e=>by
  have n2:(la ++ lb).Nodup:=by
   refine nd.sublist ?_
   have:(flat R1 ++ la ++ lb ++ flat R2 ++ rest)=flat R1 ++ ((la ++ lb) ++ (flat R2 ++ rest)):=by simp
   rw [this]
   exact (List.sublist_append_left _ _).trans (List.sublist_append_right _ _)
  subst e
  exact (List.nodup_append.mp n2).2.2 x hx x hy rfl
 have p1:(pend 0 (R1 ++ (la,w1) :: (lb,w2) :: R2)).toArray[R1.length]?=some ((flat R1).length,la.length,w1):=by
  rw [List.getElem?_toArray,qaZ,List.getElem?_append_right (by rw [qaY]; exact Nat.le_refl _),qaY,Nat.sub_self]
  simp [pend]
 have p2:(pend 0 (R1 ++ (la,w1) :: (lb,w2) :: R2)).toArray[R1.length + 1]?=some ((flat R1).length + la.length,lb.length,w2):=by
  rw [List.getElem?_toArray,qaZ,List.getElem?_append_right (by rw [qaY]; omega),qaY,Nat.add_sub_cancel_left]
  simp [pend]
 have pe:∀ l:List Nat,l.length=la.length + lb.length->(((pend 0 (R1 ++ (la,w1) :: (lb,w2) :: R2)).toArray.setIfInBounds R1.length ((flat R1).length,la.length + lb.length,w1)).eraseIdxIfInBounds (R1.length + 1))=(pend 0 (R1 ++ (l,w1) :: R2)).toArray:=by
  intro l hl
  apply Array.toList_inj.mp
  rw [qaZ,qaZ]
  have e:pend (0 + (flat R1).length) ((la,w1) :: (lb,w2) :: R2)=((flat R1).length,la.length,w1) :: ((flat R1).length + la.length,lb.length,w2) :: pend ((flat R1).length + la.length + lb.length) R2:=by simp [pend]
  have e':pend (0 + (flat R1).length) ((l,w1) :: R2)=((flat R1).length,la.length + lb.length,w1) :: pend ((flat R1).length + la.length + lb.length) R2:=by simp [pend,hl,Nat.add_assoc]
  rw [e,e',Array.eraseIdxIfInBounds]
  have sz:R1.length + 1 < (((pend 0 R1 ++ ((flat R1).length,la.length,w1) :: ((flat R1).length + la.length,lb.length,w2) :: pend ((flat R1).length + la.length + lb.length) R2).toArray.setIfInBounds R1.length ((flat R1).length,la.length + lb.length,w1))).size:=by simp [qaY]
  rw [dif_pos sz,Array.toList_eraseIdx,Array.toList_setIfInBounds]
  have q:=qaY 0 R1
  rw [<- q]
  simp [List.set_append,List.eraseIdx_append_of_length_le]
 have atA:∀ {i:Nat} (hi:i < la.length),(kvs kv (flat R1 ++ la ++ lb ++ flat R2 ++ rest))[(flat R1).length + i]?=some (kv la[i]):=fun {i} hi=>by
  rw [qam (by simp; omega)]
  congr 2
  simp [List.getElem_append,hi]
 have atB:∀ {i:Nat} (hi:i < lb.length),(kvs kv (flat R1 ++ la ++ lb ++ flat R2 ++ rest))[(flat R1).length + la.length + i]?=some (kv lb[i]):=fun {i} hi=>by
  rw [qam (by simp; omega)]
  congr 2
  simp [List.getElem_append,hi,Nat.add_assoc]
 have inAB:∀ x∈la,∀ y∈lb,In n y x:=fun x hx y hy=>⟨ltn y (by simp [hy]),ltn x (by simp [hx]),fun e=>dis x hx y hy e.symm⟩
 have O:=C.O
 refine wpS_bind (wpS_get ?_)
 dsimp only
 rw [p1,p2]
 dsimp only
 refine wpS_bind (qlm ?_)
 rw [pe (la ++ lb) (by simp)]
 refine wpS_bind (qad (x:=kv lb[0]) (by have:=atB (i:=0) b1; simpa using this) ?_)
 refine wpS_bind (qaq (fun i=>!(c lb[0] (la.getD i 0))) (fun i j' hij hj q=>?_) (by omega) (fun i hi=>⟨kv (la.getD i 0),?_,fun Q' z _=>absurd z (by decide),fun Q' _ hQ=>C.lt _ _ (inAB _ (getD_mem hi) _ (List.getElem_mem _)) _ rfl _ (by simpa using hQ)⟩) fun k hk hT hF=>?_)
 ·rw [qaa (show i < la.length by omega)]
  rw [qaa hj] at q
  have q':c lb[0] la[j']=false:=by simpa using q
  simpa using qfu O sa (by omega) (by omega) (by omega) q'
 ·rw [atA hi,qaa hi]
 dsimp only
 have low:∀ x∈la.take k,c lb[0] x=false:=fun x hx=>by
  obtain ⟨i,hi,rfl⟩:=List.mem_iff_getElem.mp hx
  rw [List.length_take] at hi
  rw [List.getElem_take]
  have:=hT i (by omega)
  rw [qaa (show i < la.length by omega)] at this
  simpa using this
 have high:∀ x∈la.drop k,c x lb[0]=false:=fun x hx=>by
  obtain ⟨i,hi,rfl⟩:=List.mem_iff_getElem.mp hx
  rw [List.length_drop] at hi
  rw [List.getElem_drop]
  have:=hF (k + i) (by omega) (by omega)
  rw [qaa (show k + i < la.length by omega)] at this
  exact O.asym _ _ (by simpa using this)
 have geB:∀ y∈lb,c y lb[0]=false:=fun y hy=>by
  obtain ⟨i,hi,rfl⟩:=List.mem_iff_getElem.mp hy
  exact qbY O sb (Nat.zero_le _) hi
 have lastA:∀ x∈la,c la[la.length - 1] x=false:=fun x hx=>by
  obtain ⟨i,hi,rfl⟩:=List.mem_iff_getElem.mp hx
  exact qbY O sa (by omega) (by omega)
 by_cases k1:la.length - k=0
 ·rw [if_pos (by simpa using k1)]
  have ek:la.take k=la:=List.take_of_length_le (by omega)
  rw [ek] at low
  have:=h (la ++ lb) g (List.Perm.refl _) (List.pairwise_append.mpr ⟨sa,sb,fun x hx y hy=>O.tr _ _ _ (low x hx) (geB y hy)⟩)
  rw [<- List.append_assoc] at this
  exact wpS_pure this
 rw [if_neg (by simpa using k1)]
 have e3:(flat R1).length + k + (la.length - k) - 1=(flat R1).length + (la.length - 1):=by omega
 rw [e3]
 refine wpS_bind (qad (atA (show la.length - 1 < la.length by omega)) ?_)
 refine wpS_bind (qaq (fun i=>c (lb.getD i 0) la[la.length - 1]) (fun i j' hij hj q=>?_) (by omega) (fun i hi=>⟨kv (lb.getD i 0),?_,fun Q' _ hQ=>C.lt _ _ (inAB _ (List.getElem_mem _) _ (getD_mem hi)) _ rfl _ hQ,fun Q' z _=>absurd z (by decide)⟩) fun m hm hT2 hF2=>?_)
 ·rw [qaa (show i < lb.length by omega)]
  rw [qaa hj] at q
  exact qcz O sb (by omega) (by omega) (by omega) q
 ·rw [atB hi,qaa hi]
 dsimp only
 have lowB:∀ y∈lb.take m,c la[la.length - 1] y=false:=fun y hy=>by
  obtain ⟨i,hi,rfl⟩:=List.mem_iff_getElem.mp hy
  rw [List.length_take] at hi
  rw [List.getElem_take]
  have:=hT2 i (by omega)
  rw [qaa (show i < lb.length by omega)] at this
  exact O.asym _ _ this
 have highB:∀ y∈lb.drop m,c y la[la.length - 1]=false:=fun y hy=>by
  obtain ⟨i,hi,rfl⟩:=List.mem_iff_getElem.mp hy
  rw [List.length_drop] at hi
  rw [List.getElem_drop]
  have:=hF2 (m + i) (by omega) (by omega)
  rwa [qaa (show m + i < lb.length by omega)] at this
 by_cases m1:m=0
 ·rw [if_pos (by simpa using m1)]
  subst m1
  have:=h (la ++ lb) g (List.Perm.refl _) (List.pairwise_append.mpr ⟨sa,sb,fun x hx y hy=>O.tr _ _ _ (lastA x hx) (highB y (by simpa using hy))⟩)
  rw [<- List.append_assoc] at this
  exact wpS_pure this
 rw [if_neg (by simpa using m1)]
 have exA:(kvs kv (flat R1 ++ la ++ lb ++ flat R2 ++ rest)).extract ((flat R1).length + k) ((flat R1).length + la.length)=kvs kv (la.drop k):=by
  have e:flat R1 ++ la ++ lb ++ flat R2 ++ rest=(flat R1 ++ la) ++ (lb ++ flat R2 ++ rest):=by simp
  have e2:((flat R1 ++ la ++ lb ++ flat R2 ++ rest).take ((flat R1).length + la.length)).drop ((flat R1).length + k)=la.drop k:=by
   rw [e,List.take_left' (by simp),List.drop_append,List.drop_of_length_le (by omega),List.nil_append,Nat.add_sub_cancel_left]
  rw [qco,e2]
 have exB:(kvs kv (flat R1 ++ la ++ lb ++ flat R2 ++ rest)).extract ((flat R1).length + la.length) ((flat R1).length + la.length + m)=kvs kv (lb.take m):=by
  have e:flat R1 ++ la ++ lb ++ flat R2 ++ rest=(flat R1 ++ la) ++ (lb ++ (flat R2 ++ rest)):=by simp
  have ln:(flat R1 ++ la).length=(flat R1).length + la.length:=by simp
  have e2:((flat R1 ++ la ++ lb ++ flat R2 ++ rest).take ((flat R1).length + la.length + m)).drop ((flat R1).length + la.length)=lb.take m:=by
   rw [e,List.take_append,List.take_of_length_le (by omega),ln,Nat.add_sub_cancel_left,List.take_append_of_le_length hm,List.drop_left' ln]
  rw [qco,e2]
 have fin:∀ (r:Array Keyed) (g':Nat),Fin' c kv (la.drop k) (lb.take m) r->Q true (SS κ (List.foldl (fun (a:Array Keyed) (x:Keyed × Nat)=>a.setIfInBounds ((flat R1).length + k + x.2) x.1) (kvs kv (flat R1 ++ la ++ lb ++ flat R2 ++ rest)) r.toList.zipIdx) (pend 0 (R1 ++ (la ++ lb,w1) :: R2)).toArray g'):=by
  rintro r g' ⟨l,rfl,pl,sl⟩
  have hl:l.length=(la.drop k ++ lb.take m).length:=pl.length_eq
  have e1:flat R1 ++ la ++ lb ++ flat R2 ++ rest=(flat R1 ++ la.take k) ++ (la.drop k ++ lb.take m) ++ (lb.drop m ++ flat R2 ++ rest):=by
   have h1:=List.take_append_drop k la
   have h2:=List.take_append_drop m lb
   calc _=flat R1 ++ (la.take k ++ la.drop k) ++ (lb.take m ++ lb.drop m) ++ flat R2 ++ rest:=by rw [h1,h2]
    _=_:=by simp only [List.append_assoc]
  have pl2:(la.take k ++ l ++ lb.drop m).Perm (la ++ lb):=by
   refine List.Perm.trans (List.Perm.append_right _ (List.Perm.append_left _ pl)) ?_
   have h1:=List.take_append_drop k la
   have h2:=List.take_append_drop m lb
   have:la.take k ++ (la.drop k ++ lb.take m) ++ lb.drop m=la ++ lb:=by
    calc _=(la.take k ++ la.drop k) ++ (lb.take m ++ lb.drop m):=by simp only [List.append_assoc]
     _=_:=by rw [h1,h2]
   rw [this]
  have as:Asc c (la.take k ++ l ++ lb.drop m):=by
   have tdA:Asc c (la.take k ++ la.drop k):=by rw [List.take_append_drop]; exact sa
   have tdB:Asc c (lb.take m ++ lb.drop m):=by rw [List.take_append_drop]; exact sb
   have xa:=(List.pairwise_append.mp tdA).2.2
   have xb:=(List.pairwise_append.mp tdB).2.2
   refine List.pairwise_append.mpr ⟨List.pairwise_append.mpr ⟨sa.sublist (List.take_sublist _ _),sl,fun x hx y hy=>?_⟩,sb.sublist (List.drop_sublist _ _),fun x hx y hy=>?_⟩
   ·rcases List.mem_append.mp (pl.mem_iff.mp hy) with q | q
    ·exact xa x hx y q
    ·exact O.tr _ _ _ (low x hx) (geB y (List.mem_of_mem_take q))
   ·rcases List.mem_append.mp hx with q | q
    ·exact O.tr _ _ _ (lastA x (List.mem_of_mem_take q)) (highB y hy)
    ·rcases List.mem_append.mp (pl.mem_iff.mp q) with q | q
     ·exact O.tr _ _ _ (lastA x (List.mem_of_mem_drop q)) (highB y hy)
     ·exact xb x q y hy
  have:=h _ g' pl2 as
  have e2:pend 0 (R1 ++ (la ++ lb,w1) :: R2)=pend 0 (R1 ++ (la.take k ++ l ++ lb.drop m,w1) :: R2):=by
   have hn:=pl2.length_eq
   rw [qaZ,qaZ]
   congr 1
   show (_,(la ++ lb).length,w1) :: pend (_ + (la ++ lb).length) R2=(_,(la.take k ++ l ++ lb.drop m).length,w1) :: pend (_ + (la.take k ++ l ++ lb.drop m).length) R2
   rw [hn]
  have e4:List.foldl (fun (a:Array Keyed) (x:Keyed × Nat)=>a.setIfInBounds ((flat R1).length + k + x.2) x.1) (kvs kv (flat R1 ++ la ++ lb ++ flat R2 ++ rest)) (kvs kv l).toList.zipIdx=kvs kv (flat R1 ++ (la.take k ++ l ++ lb.drop m) ++ flat R2 ++ rest):=by
   have f:=qg3 kv l (flat R1 ++ la.take k) (la.drop k ++ lb.take m) (lb.drop m ++ flat R2 ++ rest) 0 hl
   rw [<- e1] at f
   have e5:flat R1 ++ la.take k ++ l ++ (lb.drop m ++ flat R2 ++ rest)=flat R1 ++ (la.take k ++ l ++ lb.drop m) ++ flat R2 ++ rest:=by simp only [List.append_assoc]
   rw [e5] at f
   rw [<- f]
   show List.foldl _ _ ((l.map kv).zipIdx 0)=_
   congr 1
   funext a x
   congr 1
   simp
   omega
  rw [e4,e2]
  exact this
 have saD:Asc c (la.drop k):=sa.sublist (List.drop_sublist _ _)
 have sbT:Asc c (lb.take m):=sb.sublist (List.take_sublist _ _)
 have ld:1≤(la.drop k).length:=by rw [List.length_drop]; omega
 have lt:1≤(lb.take m).length:=by rw [List.length_take]; omega
 have lastD:(la.drop k)[(la.drop k).length - 1]=la[la.length - 1]:=by
  rw [List.getElem_drop]
  congr 1
  rw [List.length_drop]; omega
 have firstT:(lb.take m)[0]=lb[0]:=by rw [List.getElem_take]
 have gtD:∀ x∈la.drop k,∀ y∈lb.take m,∀ (g2:Nat) (Q':Option Bool->SortSt->Prop),Q' (some (c y x)) (qar (SS κ (kvs kv (flat R1 ++ la ++ lb ++ flat R2 ++ rest)) (pend 0 (R1 ++ (la ++ lb,w1) :: R2)).toArray g) g2)->wpS (model prog w) A E s (lt' (kv y) (kv x)) Q' (qar (SS κ (kvs kv (flat R1 ++ la ++ lb ++ flat R2 ++ rest)) (pend 0 (R1 ++ (la ++ lb,w1) :: R2)).toArray g) g2):=fun x hx y hy g2 Q' hQ=>C.lt _ _ (inAB _ (List.mem_of_mem_drop hx) _ (List.mem_of_mem_take hy)) _ rfl _ hQ
 rw [exA,exB]
 split
 ·refine wpS_bind (qfv O saD sbT ld lt (fun x hx y hy g2 Q' hQ=>C.lt _ _ (by obtain ⟨a,b,d⟩:=inAB _ (List.mem_of_mem_drop hx) _ (List.mem_of_mem_take hy); exact ⟨b,a,fun e=>d e.symm⟩) _ rfl _ hQ) gtD (fun y hy=>by rw [lastD]; exact lowB y hy) (fun y hy=>by rw [firstT]; exact high y hy) fun r g2 hr=>?_)
  refine wpS_bind (wpS_modify (wpS_bind (wpS_get (wpS_pure ?_))))
  exact fin r g2 hr
 ·refine wpS_bind (qfw O saD sbT ld lt gtD (fun y hy=>by rw [lastD]; exact lowB y hy) (fun y hy=>by rw [firstT]; exact high y hy) fun r g2 hr=>?_)
  refine wpS_bind (wpS_modify (wpS_bind (wpS_get (wpS_pure ?_))))
  exact fin r g2 hr
end
def UpO (c:Nat->Nat->Bool)(p:Array Nat)(lo m:Nat):Prop:=∀ i j,lo≤i->i≤j->j < lo + m->c (at' p j) (at' p i)=false
theorem qjR {α β:Type}(f:α->β)(xs:Array α)(i j:Nat):(xs.map f).swapIfInBounds i j=(xs.swapIfInBounds i j).map f:=by
 rw [Array.swapIfInBounds_def,Array.swapIfInBounds_def]
 by_cases h1:i < xs.size
 ·by_cases h2:j < xs.size
  ·rw [dif_pos (by simpa using h1),dif_pos (by simpa using h2),dif_pos h1,dif_pos h2]
   apply Array.ext (by simp)
   intro k hk1 hk2
   simp [Array.getElem_swap]
   split <;> (try split) <;> rfl
  ·rw [dif_pos (by simpa using h1),dif_neg (by simpa using h2),dif_pos h1,dif_neg h2]
 ·rw [dif_neg (by simpa using h1),dif_neg h1]
theorem qc7 {α β γ:Type}(f:α->β)(p q:γ->Nat):∀ (l:List γ) (xs:Array α),l.foldl (fun a k=>a.swapIfInBounds (p k) (q k)) (xs.map f)=(l.foldl (fun a k=>a.swapIfInBounds (p k) (q k)) xs).map f
 | [],xs=>rfl
 | k :: l,xs=>by rw [List.foldl_cons,List.foldl_cons,qjR,qc7 f p q l]
theorem qhL {α β:Type}(f:α->β)(xs:Array α)(i d:Nat):bubble (xs.map f) i d=(bubble xs i d).map f:=qc7 f _ _ _ _
theorem qhs {α β:Type}(f:α->β)(xs:Array α)(i j d:Nat):mirror (xs.map f) i j d=(mirror xs i j d).map f:=qc7 f _ _ _ _
section
variable {prog:Program}{w:World}{A:Around}{E:Value->Shared->Prop}{s:Shared}
theorem qaL {c:Nat->Nat->Bool}{kv:Nat->Keyed}{κ:SortKind}{n:Nat}(C:Cmp prog w A E s c kv κ n){p:Array Nat}(hp:Of n p){pd:Array (Nat × Nat × Nat)}{g i j:Nat}(hi:i < n)(hj:j < n)(ne:i≠j){Q:Option Bool->SortSt->Prop}(h:Q (some (c (at' p i) (at' p j))) (SS κ (p.map kv) pd g)):wpS (model prog w) A E s (ltAt' i j) Q (SS κ (p.map kv) pd g):=by
 have sz:=hp.size
 rw [ltAt'_eq]
 refine wpS_bind (wpS_get ?_)
 have ei:∀ {i:Nat},i < n->(p.map kv)[i]?=some (kv (at' p i)):=fun {i} hi=>by
  rw [Array.getElem?_map]
  unfold at'
  rw [Array.getD_eq_getD_getElem?]
  rw [getElem?_pos p i (by omega)]
  rfl
 refine wpS_bind (qad (ei hi) (wpS_bind (qad (ei hj) ?_)))
 exact C.lt _ _ (hp.inn hi hj ne) _ rfl _ h
theorem qhc {c:Nat->Nat->Bool}{kv:Nat->Keyed}{κ:SortKind}{n:Nat}(C:Cmp prog w A E s c kv κ n){p:Array Nat}(hp:Of n p){pd:Array (Nat × Nat × Nat)}{g lo m ok:Nat}(hm:lo + m≤n)(hok:ok≤m)(u:UpO c p lo ok){Q:Bool->SortSt->Prop}
  (h:∀ p':Array Nat,Of n p'->UpO c p' lo m->(∀ i,i < lo->at' p' i=at' p i)->Q true (SS κ (p'.map kv) pd g)):wpS (model prog w) A E s (binarySort' lo m ok) Q (SS κ (p.map kv) pd g):=by
 have O:=C.O
 rw [binarySort'_eq]
 refine wpS_bind (wpS_mono (wpS_forRange (I:=fun k z st'=>z=(none,())/\∃ p':Array Nat,st'=SS κ (p'.map kv) pd g/\Of n p'/\UpO c p' lo (min k m)/\∀ i,i < lo->at' p' i=at' p i)
  (Q:=fun z st'=>z=(none,())/\∃ p':Array Nat,st'=SS κ (p'.map kv) pd g/\Of n p'/\UpO c p' lo m/\∀ i,i < lo->at' p' i=at' p i) ?_ ?_ ?_) ?_)
 ·rintro k z st' hk1 hk2 ⟨rfl,p',rfl,o',u',pr⟩
  rw [show min k m=k by omega] at u'
  have sz:=o'.size
  refine wpS_bind (wpS_mono (wpS_forRange (I:=fun x z st''=>st''=SS κ (p'.map kv) pd g/\∃ l r,z=(none,l,r)/\l≤r/\r≤k/\r - l≤k - x/\(∀ i,i < l->c (at' p' (lo + k)) (at' p' (lo + i))=false)/\∀ i,r≤i->i < k->c (at' p' (lo + i)) (at' p' (lo + k))=false)
   (Q:=fun z st''=>st''=SS κ (p'.map kv) pd g/\∃ l,(∃ r,z=(none,l,r))/\l≤k/\(∀ i,i < l->c (at' p' (lo + k)) (at' p' (lo + i))=false)/\∀ i,l≤i->i < k->c (at' p' (lo + i)) (at' p' (lo + k))=false) ?_ ?_ ⟨rfl,0,k,rfl,by omega,by omega,by omega,fun i hi=>by omega,fun i h1 h2=>by omega⟩) ?_)
  ·rintro x z st'' _ hx ⟨rfl,l,r,rfl,hlr,hrk,hd,h1,h2⟩
   dsimp only
   by_cases e:l ≥ r
   ·rw [if_pos e]
    obtain rfl:l=r:=by omega
    exact wpS_pure ⟨rfl,l,⟨_,rfl⟩,hrk,h1,h2⟩
   ·rw [if_neg e]
    refine wpS_bind (qaL C o' (by omega) (by omega) (by omega) ?_)
    dsimp only
    cases hc:c (at' p' (lo + k)) (at' p' (lo + (l + r) / 2)) with
    | true =>
     simp only [if_true]
     exact wpS_pure ⟨rfl,_,_,rfl,by omega,by omega,by omega,h1,fun i q1 q2=>O.tr _ _ _ (O.asym _ _ hc) (u' _ _ (by omega) (by omega) (by omega))⟩
    | false =>
     simp only [Bool.false_eq_true,if_false]
     exact wpS_pure ⟨rfl,_,_,rfl,by omega,by omega,by omega,fun i q=>O.tr _ _ _ (u' _ _ (by omega) (by omega) (by omega)) hc,h2⟩
  ·rintro z st'' ⟨rfl,l,r,rfl,hlr,hrk,hd,h1,h2⟩
   obtain rfl:l=r:=by omega
   exact ⟨rfl,l,⟨_,rfl⟩,hrk,h1,h2⟩
  ·rintro z st'' ⟨rfl,l,⟨r,rfl⟩,hlk,h1,h2⟩
   dsimp only
   rw [moveDown'_eq]
   refine wpS_bind (wpS_modify (wpS_pure ⟨rfl,bubble p' (lo + k) (lo + k - (lo + l)),?_,o'.bub _ _,?_,?_⟩))
   ·show SS κ (bubble (p'.map kv) (lo + k) (lo + k - (lo + l))) pd g=_
    rw [qhL]
   ·rw [show min (k + 1) m=k + 1 by omega]
    intro i j hi hij hj
    rw [qjG (by omega) (by omega),qjG (by omega) (by omega)]
    by_cases ji:j=lo + l
    ·rw [if_pos ji]
     by_cases ii:i=lo + l
     ·rw [if_pos ii]; exact O.irr _
     ·rw [if_neg ii,if_neg (by omega)]
      have:=h1 (i - lo) (by omega)
      rwa [show lo + (i - lo)=i by omega] at this
    ·rw [if_neg ji]
     by_cases ii:i=lo + l
     ·rw [if_pos ii,if_pos (by omega)]
      have:=h2 (j - 1 - lo) (by omega) (by omega)
      rwa [show lo + (j - 1 - lo)=j - 1 by omega] at this
     ·rw [if_neg ii]
      split <;> split
      ·exact u' _ _ (by omega) (by omega) (by omega)
      ·exact u' _ _ (by omega) (by omega) (by omega)
      ·omega
      ·exact u' _ _ (by omega) (by omega) (by omega)
   ·intro i hi
    rw [qjG (by omega) (by omega),if_neg (by omega),if_neg (by omega)]
    exact pr i hi
 ·rintro z st' ⟨rfl,p',rfl,o',u',pr⟩
  refine ⟨rfl,p',rfl,o',?_,pr⟩
  rwa [show min (max (max ok 1) m) m=m by omega] at u'
 ·refine ⟨rfl,p,rfl,hp,fun i j hi hij hj=>?_,fun _ _=>rfl⟩
  by_cases q:ok=0
  ·have:i=j:=by omega
   subst this; exact O.irr _
  ·exact u i j hi hij (by omega)
 ·rintro z st' ⟨rfl,p',rfl,o',u',pr⟩
  exact wpS_pure (h p' o' u' pr)
end
def DnO (c:Nat->Nat->Bool)(p:Array Nat)(lo m:Nat):Prop:=∀ i j,lo≤i->i≤j->j < lo + m->c (at' p i) (at' p j)=false
def EqO (c:Nat->Nat->Bool)(p:Array Nat)(lo m q:Nat):Prop:=∀ i j,lo + m≤i + (q + 1)->lo + m≤j + (q + 1)->i < lo + m->j < lo + m->c (at' p i) (at' p j)=false
section
variable {c:Nat->Nat->Bool}(O:Ord c)
include O
theorem qcd {p:Array Nat}{lo m:Nat}(h:UpO c p lo m)(h1:1≤m)(e:c (at' p (lo + m)) (at' p (lo + m - 1))=false):UpO c p lo (m + 1):=by
 intro i j hi hij hj
 by_cases q:j < lo + m
 ·exact h i j hi hij q
 ·obtain rfl:j=lo + m:=by omega
  by_cases r:i=lo + m
  ·subst r; exact O.irr _
  ·exact O.tr _ _ _ (h i (lo + m - 1) hi (by omega) (by omega)) e
theorem qbz {p:Array Nat}{lo m:Nat}(h:DnO c p lo m)(h1:1≤m)(e:c (at' p (lo + m - 1)) (at' p (lo + m))=false):DnO c p lo (m + 1):=by
 intro i j hi hij hj
 by_cases q:j < lo + m
 ·exact h i j hi hij q
 ·obtain rfl:j=lo + m:=by omega
  by_cases r:i=lo + m
  ·subst r; exact O.irr _
  ·exact O.tr _ _ _ e (h i (lo + m - 1) hi (by omega) (by omega))
theorem qez {p:Array Nat}{lo m q:Nat}(hm:lo + m≤p.size)(d:DnO c p lo m)(e:EqO c p lo m q)(hq:q + 1≤m):DnO c (kas_rev p (lo + m - (q + 1)) (lo + m)) lo m:=by
 intro i j hi hij hj
 rw [qa3 hm,qa3 hm]
 split <;> split
 ·exact e _ _ (by omega) (by omega) (by omega) (by omega)
 ·omega
 ·exact d _ _ (by omega) (by omega) (by omega)
 ·exact d _ _ hi hij hj
theorem qce {p:Array Nat}{lo m:Nat}(hm:lo + m≤p.size)(d:DnO c p lo m):UpO c (kas_rev p lo (lo + m)) lo m:=by
 intro i j hi hij hj
 rw [qa3 hm,qa3 hm,if_pos (by omega),if_pos (by omega)]
 exact d _ _ (by omega) (by omega) (by omega)
end
section
variable {prog:Program}{w:World}{A:Around}{E:Value->Shared->Prop}{s:Shared}
theorem qbx {kv:Nat->Keyed}{κ:SortKind}{p:Array Nat}{pd:Array (Nat × Nat × Nat)}{g i j:Nat}{Q:Unit->SortSt->Prop}(h:Q () (SS κ ((kas_rev p i j).map kv) pd g)):wpS (model prog w) A E s (reverseSlice' i j) Q (SS κ (p.map kv) pd g):=by
 rw [reverseSlice'_eq]
 refine wpS_modify ?_
 have e:(mirror (p.map kv) i j ((j - i) / 2))=(kas_rev p i j).map kv:=qhs kv p i j _
 show Q () (SS κ (mirror (p.map kv) i j ((j - i) / 2)) pd g)
 rw [e]; exact h
theorem qhP {c:Nat->Nat->Bool}{kv:Nat->Keyed}{κ:SortKind}{n:Nat}(C:Cmp prog w A E s c kv κ n){p:Array Nat}(hp:Of n p){pd:Array (Nat × Nat × Nat)}{g lo m:Nat}(hm:lo + m≤n)(h1:1≤m){Q:Option Nat->SortSt->Prop}
  (h:∀ (r:Nat) (p':Array Nat),1≤r->r≤m->Of n p'->UpO c p' lo r->(∀ i,i < lo->at' p' i=at' p i)->Q (some r) (SS κ (p'.map kv) pd g)):wpS (model prog w) A E s (countRun' lo m) Q (SS κ (p.map kv) pd g):=by
 have O:=C.O
 rw [countRun'_eq]
 refine wpS_bind (wpS_mono (wpS_forRange (I:=fun x z st'=>st'=SS κ (p.map kv) pd g/\z=(none,x)/\UpO c p lo x)
  (Q:=fun z st'=>st'=SS κ (p.map kv) pd g/\∃ x,z=(none,x)/\1≤x/\x≤m/\UpO c p lo x/\(x=m\/(x < m/\c (at' p (lo + x)) (at' p (lo + x - 1))=true))) ?_ ?_ ⟨rfl,rfl,fun i j hi hij hj=>by have:i=j:=(by omega); subst this; exact O.irr _⟩) ?_)
 ·rintro x z st' hx1 hx2 ⟨rfl,rfl,u⟩
  dsimp only
  refine wpS_bind (qaL C hp (by omega) (by omega) (by omega) ?_)
  dsimp only
  cases hc:c (at' p (lo + x)) (at' p (lo + x - 1)) with
  | true =>
   simp only [if_true]
   exact wpS_pure ⟨rfl,x,rfl,hx1,by omega,u,.inr ⟨hx2,hc⟩⟩
  | false =>
   simp only [Bool.false_eq_true,if_false]
   exact wpS_pure ⟨rfl,rfl,qcd O u hx1 hc⟩
 ·rintro z st' ⟨rfl,rfl,u⟩
  rw [show max 1 m=m by omega] at u ⊢
  exact ⟨rfl,m,rfl,h1,Nat.le_refl _,u,.inl rfl⟩
 ·rintro z st' ⟨rfl,x,rfl,hx1,hx2,u,hor⟩
  dsimp only
  by_cases e:x=m
  ·rw [if_pos (by simpa using e)]
   exact wpS_pure (h x p hx1 hx2 hp u fun _ _=>rfl)
  rw [if_neg (by simpa using e)]
  have hc:=(hor.resolve_left e).2
  have xm:=(hor.resolve_left e).1
  have szp:=hp.size
  by_cases x1:x > 1
  ·rw [if_pos x1]
   refine wpS_bind (qaL C hp (by omega) (by omega) (by omega) ?_)
   dsimp only
   cases hr:c (at' p lo) (at' p (lo + x - 1)) with
   | true =>
    simp only [if_true]
    exact wpS_pure (h x p hx1 hx2 hp u fun _ _=>rfl)
   | false =>
    simp only [Bool.false_eq_true,if_false]
    have all:∀ a b,lo≤a->a < lo + x->lo≤b->b < lo + x->c (at' p a) (at' p b)=false:=fun a b a1 a2 b1 b2 =>
     O.tr _ _ _ (u b (lo + x - 1) b1 (by omega) (by omega)) (O.tr _ _ _ hr (u lo a (Nat.le_refl _) a1 a2))
    refine wpS_bind (qbx ?_)
    have ox:=hp.rev lo (lo + x)
    have dx:DnO c (kas_rev p lo (lo + x)) lo (x + 1):=by
     intro i j hi hij hj
     rw [qa3 (by omega),qa3 (by omega)]
     by_cases ej:j < lo + x
     ·rw [if_pos (by omega),if_pos (by omega)]
      exact all _ _ (by omega) (by omega) (by omega) (by omega)
     ·obtain rfl:j=lo + x:=by omega
      rw [if_neg (show ¬ (lo≤lo + x/\lo + x < lo + x) by omega)]
      by_cases ei:i < lo + x
      ·rw [if_pos (by omega)]
       exact O.tr _ _ _ (O.asym _ _ hc) (all _ _ (by omega) (by omega) (by omega) (by omega))
      ·rw [if_neg (by omega)]
       obtain rfl:i=lo + x:=by omega
       exact O.irr _
    have prx:∀ i,i < lo->at' (kas_rev p lo (lo + x)) i=at' p i:=fun i hi=>by rw [qa3 (by omega),if_neg (by omega)]
    refine wpS_bind (wpS_lift (wpAny_rule ⟨rfl,?_⟩))
    refine wpS_bind (wpS_mono (wpS_forRange (I:=fun y z st'=>∃ q p',st'=SS κ (p'.map kv) pd g/\z=(none,y,q)/\Of n p'/\DnO c p' lo y/\EqO c p' lo y q/\q + 1≤y/\∀ i,i < lo->at' p' i=at' p i)
     (Q:=fun z st'=>∃ y q p',st'=SS κ (p'.map kv) pd g/\z=(none,y,q)/\1≤y/\y≤m/\Of n p'/\DnO c p' lo y/\EqO c p' lo y q/\q + 1≤y/\∀ i,i < lo->at' p' i=at' p i) ?_ ?_ ⟨0,kas_rev p lo (lo + x),rfl,rfl,ox,dx,fun i j a1 a2 a3 a4=>by have:i=j:=(by omega); subst this; exact O.irr _,by omega,prx⟩) ?_)
    ·rintro y z st' hy1 hy2 ⟨q,p',rfl,rfl,o',d',e',hq,pr'⟩
     have sz:=o'.size
     dsimp only
     refine wpS_bind (qaL C o' (by omega) (by omega) (by omega) ?_)
     dsimp only
     cases hc1:c (at' p' (lo + y)) (at' p' (lo + y - 1)) with
     | true =>
      simp only [if_true]
      have as:=O.asym _ _ hc1
      by_cases q0:q > 0
      ·rw [if_pos q0]
       refine wpS_bind (qbx (wpS_pure ⟨0,_,rfl,rfl,o'.rev _ _,qbz O (qez O (by omega) d' e' hq) (by omega) ?_,fun i j a1 a2 a3 a4=>by have:i=j:=(by omega); subst this; exact O.irr _,by omega,fun i hi=>?_⟩))
       ·rw [qa3 (by omega),qa3 (by omega),if_pos (by omega),if_neg (by omega)]
        exact O.tr _ _ _ as (e' _ _ (by omega) (by omega) (by omega) (by omega))
       ·rw [qa3 (by omega),if_neg (by omega)]
        exact pr' i hi
      ·rw [if_neg q0]
       exact wpS_pure ⟨0,p',rfl,rfl,o',qbz O d' (by omega) as,fun i j a1 a2 a3 a4=>by have:i=j:=(by omega); subst this; exact O.irr _,by omega,pr'⟩
     | false =>
      simp only [Bool.false_eq_true,if_false]
      refine wpS_bind (qaL C o' (by omega) (by omega) (by omega) ?_)
      dsimp only
      cases hc2:c (at' p' (lo + y - 1)) (at' p' (lo + y)) with
      | true =>
       simp only [if_true]
       exact wpS_pure ⟨y,q,p',rfl,rfl,by omega,by omega,o',d',e',hq,pr'⟩
      | false =>
       simp only [Bool.false_eq_true,if_false]
       refine wpS_pure ⟨q + 1,p',rfl,rfl,o',qbz O d' (by omega) hc2,fun i j a1 a2 a3 a4=>?_,by omega,pr'⟩
       by_cases ei:i=lo + y
       ·by_cases ej:j=lo + y
        ·rw [ei,ej]; exact O.irr _
        ·rw [ei]
         exact O.tr _ _ _ (e' (lo + y - 1) j (by omega) (by omega) (by omega) (by omega)) hc1
       ·by_cases ej:j=lo + y
        ·rw [ej]
         exact O.tr _ _ _ hc2 (e' i (lo + y - 1) (by omega) (by omega) (by omega) (by omega))
        ·exact e' i j (by omega) (by omega) (by omega) (by omega)
    ·rintro z st' ⟨q,p',rfl,rfl,o',d',e',hq,pr'⟩
     rw [show max (x + 1) m=m by omega] at d' e' hq ⊢
     exact ⟨m,q,p',rfl,rfl,h1,Nat.le_refl _,o',d',e',hq,pr'⟩
    ·rintro z st' ⟨y,q,p',rfl,rfl,hy1,hy2,o',d',e',hq,pr'⟩
     have sz:=o'.size
     dsimp only
     by_cases q0:q > 0
     ·rw [if_pos q0]
      refine wpS_bind (qbx ?_)
      have oz:=o'.rev (lo + y - (q + 1)) (lo + y)
      have dz:=qez O (by omega) d' e' hq
      have prz:∀ i,i < lo->at' (kas_rev p' (lo + y - (q + 1)) (lo + y)) i=at' p i:=fun i hi=>by
       rw [qa3 (by omega),if_neg (by omega)]; exact pr' i hi
      refine wpS_bind (qbx ?_)
      refine wpS_bind (wpS_mono (wpS_forRange (I:=fun t z st'=>st'=SS κ ((kas_rev (kas_rev p' (lo + y - (q + 1)) (lo + y)) lo (lo + y)).map kv) pd g/\z=(none,t)/\UpO c (kas_rev (kas_rev p' (lo + y - (q + 1)) (lo + y)) lo (lo + y)) lo t)
       (Q:=fun z st'=>st'=SS κ ((kas_rev (kas_rev p' (lo + y - (q + 1)) (lo + y)) lo (lo + y)).map kv) pd g/\∃ t,z=(none,t)/\1≤t/\t≤m/\UpO c (kas_rev (kas_rev p' (lo + y - (q + 1)) (lo + y)) lo (lo + y)) lo t) ?_ ?_ ⟨rfl,rfl,qce O (by rw [oz.size]; omega) dz⟩) ?_)
      ·rintro t z st' ht1 ht2 ⟨rfl,rfl,ut⟩
       dsimp only
       refine wpS_bind (qaL C (oz.rev _ _) (by omega) (by omega) (by omega) ?_)
       dsimp only
       cases hct:c (at' (kas_rev (kas_rev p' (lo + y - (q + 1)) (lo + y)) lo (lo + y)) (lo + t)) (at' (kas_rev (kas_rev p' (lo + y - (q + 1)) (lo + y)) lo (lo + y)) (lo + t - 1)) with
       | true =>
        simp only [if_true]
        exact wpS_pure ⟨rfl,t,rfl,by omega,by omega,ut⟩
       | false =>
        simp only [Bool.false_eq_true,if_false]
        exact wpS_pure ⟨rfl,rfl,qcd O ut (by omega) hct⟩
      ·rintro z st' ⟨rfl,rfl,ut⟩
       rw [show max y m=m by omega] at ut ⊢
       exact ⟨rfl,m,rfl,h1,Nat.le_refl _,ut⟩
      ·rintro z st' ⟨rfl,t,rfl,ht1,ht2,ut⟩
       refine wpS_pure (h t _ ht1 ht2 (oz.rev _ _) ut fun i hi=>?_)
       rw [qa3 (by rw [oz.size]; omega),if_neg (by omega)]
       exact prz i hi
     ·rw [if_neg q0]
      have oz:=o'
      have dz:=d'
      have prz:=pr'
      refine wpS_bind (qbx ?_)
      refine wpS_bind (wpS_mono (wpS_forRange (I:=fun t z st'=>st'=SS κ ((kas_rev (p') lo (lo + y)).map kv) pd g/\z=(none,t)/\UpO c (kas_rev (p') lo (lo + y)) lo t)
       (Q:=fun z st'=>st'=SS κ ((kas_rev (p') lo (lo + y)).map kv) pd g/\∃ t,z=(none,t)/\1≤t/\t≤m/\UpO c (kas_rev (p') lo (lo + y)) lo t) ?_ ?_ ⟨rfl,rfl,qce O (by rw [oz.size]; omega) dz⟩) ?_)
      ·rintro t z st' ht1 ht2 ⟨rfl,rfl,ut⟩
       dsimp only
       refine wpS_bind (qaL C (oz.rev _ _) (by omega) (by omega) (by omega) ?_)
       dsimp only
       cases hct:c (at' (kas_rev (p') lo (lo + y)) (lo + t)) (at' (kas_rev (p') lo (lo + y)) (lo + t - 1)) with
       | true =>
        simp only [if_true]
        exact wpS_pure ⟨rfl,t,rfl,by omega,by omega,ut⟩
       | false =>
        simp only [Bool.false_eq_true,if_false]
        exact wpS_pure ⟨rfl,rfl,qcd O ut (by omega) hct⟩
      ·rintro z st' ⟨rfl,rfl,ut⟩
       rw [show max y m=m by omega] at ut ⊢
       exact ⟨rfl,m,rfl,h1,Nat.le_refl _,ut⟩
      ·rintro z st' ⟨rfl,t,rfl,ht1,ht2,ut⟩
       refine wpS_pure (h t _ ht1 ht2 (oz.rev _ _) ut fun i hi=>?_)
       rw [qa3 (by rw [oz.size]; omega),if_neg (by omega)]
       exact prz i hi
  ·rw [if_neg x1]
   obtain rfl:x=1:=by omega
   have ox:=hp
   have dx:DnO c p lo (1 + 1):=qbz O (m:=1) (fun i j hi hij hj=>by have:i=j:=(by omega); subst this; exact O.irr _) (by omega) (O.asym _ _ hc)
   have prx:∀ i,i < lo->at' p i=at' p i:=fun _ _=>rfl
   refine wpS_bind (wpS_lift (wpAny_rule ⟨rfl,?_⟩))
   refine wpS_bind (wpS_mono (wpS_forRange (I:=fun y z st'=>∃ q p',st'=SS κ (p'.map kv) pd g/\z=(none,y,q)/\Of n p'/\DnO c p' lo y/\EqO c p' lo y q/\q + 1≤y/\∀ i,i < lo->at' p' i=at' p i)
    (Q:=fun z st'=>∃ y q p',st'=SS κ (p'.map kv) pd g/\z=(none,y,q)/\1≤y/\y≤m/\Of n p'/\DnO c p' lo y/\EqO c p' lo y q/\q + 1≤y/\∀ i,i < lo->at' p' i=at' p i) ?_ ?_ ⟨0,p,rfl,rfl,ox,dx,fun i j a1 a2 a3 a4=>by have:i=j:=(by omega); subst this; exact O.irr _,by omega,prx⟩) ?_)
   ·rintro y z st' hy1 hy2 ⟨q,p',rfl,rfl,o',d',e',hq,pr'⟩
    have sz:=o'.size
    dsimp only
    refine wpS_bind (qaL C o' (by omega) (by omega) (by omega) ?_)
    dsimp only
    cases hc1:c (at' p' (lo + y)) (at' p' (lo + y - 1)) with
    | true =>
     simp only [if_true]
     have as:=O.asym _ _ hc1
     by_cases q0:q > 0
     ·rw [if_pos q0]
      refine wpS_bind (qbx (wpS_pure ⟨0,_,rfl,rfl,o'.rev _ _,qbz O (qez O (by omega) d' e' hq) (by omega) ?_,fun i j a1 a2 a3 a4=>by have:i=j:=(by omega); subst this; exact O.irr _,by omega,fun i hi=>?_⟩))
      ·rw [qa3 (by omega),qa3 (by omega),if_pos (by omega),if_neg (by omega)]
       exact O.tr _ _ _ as (e' _ _ (by omega) (by omega) (by omega) (by omega))
      ·rw [qa3 (by omega),if_neg (by omega)]
       exact pr' i hi
     ·rw [if_neg q0]
      exact wpS_pure ⟨0,p',rfl,rfl,o',qbz O d' (by omega) as,fun i j a1 a2 a3 a4=>by have:i=j:=(by omega); subst this; exact O.irr _,by omega,pr'⟩
    | false =>
     simp only [Bool.false_eq_true,if_false]
     refine wpS_bind (qaL C o' (by omega) (by omega) (by omega) ?_)
     dsimp only
     cases hc2:c (at' p' (lo + y - 1)) (at' p' (lo + y)) with
     | true =>
      simp only [if_true]
      exact wpS_pure ⟨y,q,p',rfl,rfl,by omega,by omega,o',d',e',hq,pr'⟩
     | false =>
      simp only [Bool.false_eq_true,if_false]
      refine wpS_pure ⟨q + 1,p',rfl,rfl,o',qbz O d' (by omega) hc2,fun i j a1 a2 a3 a4=>?_,by omega,pr'⟩
      by_cases ei:i=lo + y
      ·by_cases ej:j=lo + y
       ·rw [ei,ej]; exact O.irr _
       ·rw [ei]
        exact O.tr _ _ _ (e' (lo + y - 1) j (by omega) (by omega) (by omega) (by omega)) hc1
      ·by_cases ej:j=lo + y
       ·rw [ej]
        exact O.tr _ _ _ hc2 (e' i (lo + y - 1) (by omega) (by omega) (by omega) (by omega))
       ·exact e' i j (by omega) (by omega) (by omega) (by omega)
   ·rintro z st' ⟨q,p',rfl,rfl,o',d',e',hq,pr'⟩
    rw [show max (1 + 1) m=m by omega] at d' e' hq ⊢
    exact ⟨m,q,p',rfl,rfl,h1,Nat.le_refl _,o',d',e',hq,pr'⟩
   ·rintro z st' ⟨y,q,p',rfl,rfl,hy1,hy2,o',d',e',hq,pr'⟩
    have sz:=o'.size
    dsimp only
    by_cases q0:q > 0
    ·rw [if_pos q0]
     refine wpS_bind (qbx ?_)
     have oz:=o'.rev (lo + y - (q + 1)) (lo + y)
     have dz:=qez O (by omega) d' e' hq
     have prz:∀ i,i < lo->at' (kas_rev p' (lo + y - (q + 1)) (lo + y)) i=at' p i:=fun i hi=>by
      rw [qa3 (by omega),if_neg (by omega)]; exact pr' i hi
     refine wpS_bind (qbx ?_)
     refine wpS_bind (wpS_mono (wpS_forRange (I:=fun t z st'=>st'=SS κ ((kas_rev (kas_rev p' (lo + y - (q + 1)) (lo + y)) lo (lo + y)).map kv) pd g/\z=(none,t)/\UpO c (kas_rev (kas_rev p' (lo + y - (q + 1)) (lo + y)) lo (lo + y)) lo t)
      (Q:=fun z st'=>st'=SS κ ((kas_rev (kas_rev p' (lo + y - (q + 1)) (lo + y)) lo (lo + y)).map kv) pd g/\∃ t,z=(none,t)/\1≤t/\t≤m/\UpO c (kas_rev (kas_rev p' (lo + y - (q + 1)) (lo + y)) lo (lo + y)) lo t) ?_ ?_ ⟨rfl,rfl,qce O (by rw [oz.size]; omega) dz⟩) ?_)
     ·rintro t z st' ht1 ht2 ⟨rfl,rfl,ut⟩
      dsimp only
      refine wpS_bind (qaL C (oz.rev _ _) (by omega) (by omega) (by omega) ?_)
      dsimp only
      cases hct:c (at' (kas_rev (kas_rev p' (lo + y - (q + 1)) (lo + y)) lo (lo + y)) (lo + t)) (at' (kas_rev (kas_rev p' (lo + y - (q + 1)) (lo + y)) lo (lo + y)) (lo + t - 1)) with
      | true =>
       simp only [if_true]
       exact wpS_pure ⟨rfl,t,rfl,by omega,by omega,ut⟩
      | false =>
       simp only [Bool.false_eq_true,if_false]
       exact wpS_pure ⟨rfl,rfl,qcd O ut (by omega) hct⟩
     ·rintro z st' ⟨rfl,rfl,ut⟩
      rw [show max y m=m by omega] at ut ⊢
      exact ⟨rfl,m,rfl,h1,Nat.le_refl _,ut⟩
     ·rintro z st' ⟨rfl,t,rfl,ht1,ht2,ut⟩
      refine wpS_pure (h t _ ht1 ht2 (oz.rev _ _) ut fun i hi=>?_)
      rw [qa3 (by rw [oz.size]; omega),if_neg (by omega)]
      exact prz i hi
    ·rw [if_neg q0]
     have oz:=o'
     have dz:=d'
     have prz:=pr'
     refine wpS_bind (qbx ?_)
     refine wpS_bind (wpS_mono (wpS_forRange (I:=fun t z st'=>st'=SS κ ((kas_rev (p') lo (lo + y)).map kv) pd g/\z=(none,t)/\UpO c (kas_rev (p') lo (lo + y)) lo t)
      (Q:=fun z st'=>st'=SS κ ((kas_rev (p') lo (lo + y)).map kv) pd g/\∃ t,z=(none,t)/\1≤t/\t≤m/\UpO c (kas_rev (p') lo (lo + y)) lo t) ?_ ?_ ⟨rfl,rfl,qce O (by rw [oz.size]; omega) dz⟩) ?_)
     ·rintro t z st' ht1 ht2 ⟨rfl,rfl,ut⟩
      dsimp only
      refine wpS_bind (qaL C (oz.rev _ _) (by omega) (by omega) (by omega) ?_)
      dsimp only
      cases hct:c (at' (kas_rev (p') lo (lo + y)) (lo + t)) (at' (kas_rev (p') lo (lo + y)) (lo + t - 1)) with
      | true =>
       simp only [if_true]
       exact wpS_pure ⟨rfl,t,rfl,by omega,by omega,ut⟩
      | false =>
       simp only [Bool.false_eq_true,if_false]
       exact wpS_pure ⟨rfl,rfl,qcd O ut (by omega) hct⟩
     ·rintro z st' ⟨rfl,rfl,ut⟩
      rw [show max y m=m by omega] at ut ⊢
      exact ⟨rfl,m,rfl,h1,Nat.le_refl _,ut⟩
     ·rintro z st' ⟨rfl,t,rfl,ht1,ht2,ut⟩
      refine wpS_pure (h t _ ht1 ht2 (oz.rev _ _) ut fun i hi=>?_)
      rw [qa3 (by rw [oz.size]; omega),if_neg (by omega)]
      exact prz i hi
end
structure Gd (c:Nat->Nat->Bool)(R:List Rn):Prop where
 up:∀ r∈R,Asc c r.1/\1≤r.1.length
theorem qbT (R S:List Rn):flat (R ++ S)=flat R ++ flat S:=by simp [flat]
theorem qbS (l:List Nat)(x:Nat):flat [(l,x)]=l:=by simp [flat]
theorem qkz (l m:List Nat)(x y:Nat)(R:List Rn):flat ((l,x) :: (m,y) :: R)=l ++ m ++ flat R:=by simp [flat]
theorem qlc {c:Nat->Nat->Bool}:∀ {R:List Rn},Gd c R->R.length≤(flat R).length
 | [],_=>Nat.zero_le _
 | (l,x) :: R,h=>by
  have h1:=(h.up (l,x) (by simp)).2
  have h2:=qlc (R:=R) ⟨fun r hr=>h.up r (List.mem_cons_of_mem _ hr)⟩
  have:(flat ((l,x) :: R)).length=l.length + (flat R).length:=by simp [flat]
  rw [this,List.length_cons]
  dsimp only at h1
  omega
theorem Gd.app {c:Nat->Nat->Bool}{R S:List Rn}(h:Gd c R)(k:Gd c S):Gd c (R ++ S):=⟨fun r hr=>by
 rcases List.mem_append.mp hr with q | q
 ·exact h.up r q
 ·exact k.up r q⟩
theorem Gd.left {c:Nat->Nat->Bool}{R S:List Rn}(h:Gd c (R ++ S)):Gd c R:=⟨fun r hr=>h.up r (List.mem_append_left _ hr)⟩
theorem Gd.right {c:Nat->Nat->Bool}{R S:List Rn}(h:Gd c (R ++ S)):Gd c S:=⟨fun r hr=>h.up r (List.mem_append_right _ hr)⟩
theorem Gd.one {c:Nat->Nat->Bool}{l:List Nat}{x:Nat}(h:Asc c l)(k:1≤l.length):Gd c [(l,x)]:=⟨fun r hr=>by rw [List.mem_singleton] at hr; subst hr; exact ⟨h,k⟩⟩
theorem cut2 {α:Type}(R:List α)(i:Nat)(h:i + 2≤R.length):∃ R1 a b R2,R=R1 ++ a :: b :: R2/\R1.length=i:=by
 refine ⟨R.take i,R[i],R[i + 1],R.drop (i + 2),?_,by rw [List.length_take]; omega⟩
 rw [<- List.drop_eq_getElem_cons (by omega),<- List.drop_eq_getElem_cons (by omega),List.take_append_drop]
theorem qkr (t:Nat)(R:List Rn)(h:R≠[])(f:Nat × Nat × Nat->Nat × Nat × Nat)(pw:Nat)(hf:∀ a b d,f (a,b,d)=(a,b,pw)):∃ R',(pend t R).toArray.modify ((pend t R).toArray.size - 1) f=(pend t R').toArray/\flat R'=flat R/\(∀ c,Gd c R->Gd c R'):=by
 obtain ⟨S,⟨l,x⟩,rfl⟩:∃ S a,R=S ++ [a]:=⟨R.dropLast,R.getLast h,(List.dropLast_concat_getLast h).symm⟩
 refine ⟨S ++ [(l,pw)],?_,by simp [flat],fun c g=>?_⟩
 ·apply Array.toList_inj.mp
  rw [qaZ,qaZ]
  have e:∀ y,pend (t + (flat S).length) [(l,y)]=[(t + (flat S).length,l.length,y)]:=fun y=>rfl
  rw [e,e]
  have k:=qaY t S
  rw [Array.toList_modify]
  have z:(pend t S ++ [(t + (flat S).length,l.length,x)]).toArray.size - 1=(pend t S).length:=by simp
  rw [z]
  show (pend t S ++ [(t + (flat S).length,l.length,x)]).modify (pend t S).length f=pend t S ++ [(t + (flat S).length,l.length,pw)]
  generalize pend t S=X
  induction X with
  | nil=>simp [hf]
  | cons a X ih=>simpa using ih
 ·have h1:=g.right.up (l,x) (by simp)
  exact g.left.app (Gd.one h1.1 h1.2)
theorem qmh {P:Nat->Prop}{c:Prop}[Decidable c]{a b:Nat}(h:∀ i,(i=a\/i=b)->P i):P (if c then a else b):=by
 split
 ·exact h _ (.inl rfl)
 ·exact h _ (.inr rfl)
theorem qk6 {n:Nat}{l:List Nat}(h:l.Perm (List.range n)):Of n l.toArray:=by
 unfold Of
 exact ⟨h⟩
theorem qnL {n:Nat}{p:Array Nat}(h:Of n p):p.toList.Perm (List.range n):=h.toList
theorem qcP {p:Array Nat}{i:Nat}(h:i < p.toList.length):at' p i=p.toList[i]:=by
 unfold at'
 rw [Array.getD_eq_getD_getElem?]
 rw [getElem?_pos p i (by simpa using h)]
 simp
theorem qh1 {p q:Array Nat}{n lo:Nat}(hp:p.size=n)(hq:q.size=n)(hlo:lo≤n)(h:∀ i,i < lo->at' p i=at' q i):p.toList.take lo=q.toList.take lo:=by
 refine List.ext_getElem (by simp; omega) fun i h1 h2=>?_
 rw [List.length_take] at h1 h2
 rw [List.getElem_take,List.getElem_take,<- qcP (by omega),<- qcP (by omega)]
 exact h i (by omega)
theorem qnK {c:Nat->Nat->Bool}{p:Array Nat}{n lo m:Nat}(hp:p.size=n)(hm:lo + m≤n)(u:UpO c p lo m):Asc c ((p.toList.drop lo).take m):=by
 rw [Asc,List.pairwise_iff_getElem]
 intro i j h1 h2 hij
 rw [List.length_take,List.length_drop] at h1 h2
 rw [List.getElem_take,List.getElem_take,List.getElem_drop,List.getElem_drop,<- qcP (by simp; omega),<- qcP (by simp; omega)]
 exact u _ _ (by omega) (by omega) (by omega)
section
variable {prog:Program}{w:World}{A:Around}{E:Value->Shared->Prop}{s:Shared}
theorem qjJ {c:Nat->Nat->Bool}{kv:Nat->Keyed}{κ:SortKind}{n:Nat}(C:Cmp prog w A E s c kv κ n)(h2:2≤n){g0:Nat}{Q:Unit->SortSt->Prop}
  (h:∀ (l:List Nat) pd g,l.Perm (List.range n)->Asc c l->Q () (SS κ (kvs kv l) pd g)):wpS (model prog w) A E s sortRuns' Q (SS κ (kvs kv (List.range n)) #[] g0):=by
 rw [sortRuns'_eq]
 refine wpS_bind (wpS_get ?_)
 dsimp only
 have sz:(arrOf (SS κ (kvs kv (List.range n)) #[] g0)).size=n:=by show (kvs kv (List.range n)).size=n; simp
 rw [sz]
 generalize minRun' n n 0=mr
 refine wpS_bind (wpS_mono (wpS_forRange
  (I:=fun k z st'=>∃ R rest g,z=(none,(flat R).length)/\st'=SS κ (kvs kv (flat R ++ rest)) (pend 0 R).toArray g/\(flat R ++ rest).Perm (List.range n)/\Gd c R/\(n≤(flat R).length\/k≤(flat R).length))
  (Q:=fun z st'=>∃ R g,z=(none,n)/\st'=SS κ (kvs kv (flat R)) (pend 0 R).toArray g/\(flat R).Perm (List.range n)/\Gd c R) ?step ?fin ⟨[],List.range n,g0,rfl,rfl,List.Perm.refl _,⟨fun _ q=>absurd q (by simp)⟩,.inr (Nat.zero_le _)⟩) ?post)
 case fin =>
  rintro z st' ⟨R,rest,g,rfl,rfl,pm,gd,k⟩
  have hl:=pm.length_eq
  rw [List.length_append,List.length_range] at hl
  have:rest=[]:=List.length_eq_zero_iff.mp (by omega)
  subst this
  rw [List.append_nil] at pm ⊢
  exact ⟨R,g,by rw [show (flat R).length=n by simp at hl; omega],rfl,pm,gd⟩
 case step =>
  rintro k z st' _ hk ⟨R,rest,g,rfl,rfl,pm,gd,kk⟩
  have hl:=pm.length_eq
  rw [List.length_append,List.length_range] at hl
  dsimp only
  by_cases e:(flat R).length ≥ n
  ·rw [if_pos e]
   have:rest=[]:=List.length_eq_zero_iff.mp (by omega)
   subst this
   rw [List.append_nil] at pm ⊢
   exact wpS_pure ⟨R,g,by rw [show (flat R).length=n by simp at hl; omega],rfl,pm,gd⟩
  ·rw [if_neg e]
   have ez:kvs kv (flat R ++ rest)=(flat R ++ rest).toArray.map kv:=by simp [kvs]
   have hp:=qk6 pm
   rw [ez]
   have key:∀ (m:Nat) (p':Array Nat) (g:Nat),1≤m->(flat R).length + m≤n->Of n p'->UpO c p' (flat R).length m->(∀ i,i < (flat R).length->at' p' i=at' (flat R ++ rest).toArray i) ->
     ∃ l rest',l.length=m/\p'.map kv=kvs kv (flat R ++ (l ++ rest'))/\(flat R ++ (l ++ rest')).Perm (List.range n)/\Asc c l:=by
    intro m p' g m1 mn o' u' sm
    have es:=qh1 (n:=n) o'.size hp.size (by omega) sm
    have et:p'.toList=flat R ++ ((p'.toList.drop (flat R).length).take m ++ (p'.toList.drop (flat R).length).drop m):=by
     rw [List.take_append_drop]
     conv=>lhs; rw [<- List.take_append_drop (flat R).length p'.toList]
     rw [es]
     simp
    refine ⟨(p'.toList.drop (flat R).length).take m,(p'.toList.drop (flat R).length).drop m,?_,?_,?_,qnK o'.size (by omega) u'⟩
    ·have:=o'.size
     simp
     omega
    ·rw [<- et]
     apply Array.toList_inj.mp
     simp
    ·rw [<- et]
     exact qnL o'
   refine wpS_bind (qhP C hp (by omega) (by omega) fun r p' r1 r2 o' u' sm=>?_)
   dsimp only
   rcases Nat.lt_or_ge r mr with hlt | hlt
   rw [if_pos hlt]
   refine wpS_bind (wpS_lift (wpAny_rule ⟨rfl,?_⟩))
   refine wpS_bind (qhc C o' (by omega) (by omega) u' fun p2 o2 u2 sm2=>?_)
   simp only [Bool.not_true,Bool.false_eq_true,if_false]
   obtain ⟨m,em⟩:∃ m,m=min (n - (flat R).length) mr:=⟨_,rfl⟩
   rw [<- em] at u2 ⊢
   have m1:1≤m:=by omega
   have m2:(flat R).length + m≤n:=by omega
   replace sm2:∀ i,i < (flat R).length->at' p2 i=at' (flat R ++ rest).toArray i:=fun i hi=>(sm2 i hi).trans (sm i hi)
   clear em sm u' o' hlt r1 r2
   rotate_left
   rw [if_neg (by omega)]
   obtain ⟨m,rfl⟩:∃ m,m=r:=⟨_,rfl⟩
   obtain ⟨p2,rfl⟩:∃ p2,p2=p':=⟨_,rfl⟩
   have m1:=r1
   have m2:(flat R).length + m≤n:=by omega
   have o2:=o'
   have u2:=u'
   have sm2:=sm
   clear sm u' o' hlt r1 r2
   all_goals
    obtain ⟨l,rest',hlm,ep,pm',asl⟩:=key m p2 g m1 m2 o2 u2 sm2
    rw [ep]
    have push:∀ (R':List Rn) (g':Nat),(flat R').Perm (flat R)->Gd c R'->wpS (model prog w) A E s (do
      modify fun s=>setPending s ((pendingOf s).push ((flat R).length,m,0))
      pure (ForInStep.yield (none,(flat R).length + m)):StateT SortSt Sem (ForInStep (Option Unit × Nat))) (fun r st'=>match r with
      | ForInStep.done c'=>∃ R g,c'=(none,n)/\st'=SS κ (kvs kv (flat R)) (pend 0 R).toArray g/\(flat R).Perm (List.range n)/\Gd c R
      | ForInStep.yield c'=>∃ R rest g,c'=(none,(flat R).length)/\st'=SS κ (kvs kv (flat R ++ rest)) (pend 0 R).toArray g/\(flat R ++ rest).Perm (List.range n)/\Gd c R/\(n≤(flat R).length\/k + 1≤(flat R).length)) (SS κ (kvs kv (flat R' ++ (l ++ rest'))) (pend 0 R').toArray g'):=by
     intro R' g' pr gr
     refine wpS_bind (wpS_modify (wpS_pure ⟨R' ++ [(l,0)],rest',g',?_,?_,?_,gr.app (Gd.one asl (by omega)),?_⟩))
     ·rw [qbT,qbS,List.length_append,pr.length_eq,hlm]
     ·show SS κ (kvs kv (flat R' ++ (l ++ rest'))) ((pend 0 R').toArray.push ((flat R).length,m,0)) g'=_
      rw [qbT,qbS,qaZ,List.append_assoc]
      congr 1
      apply Array.toList_inj.mp
      rw [Nat.zero_add,pr.length_eq]
      rw [Array.toList_push,<- hlm]
      rfl
     ·rw [qbT,qbS,List.append_assoc]
      exact (List.Perm.append_right _ pr).trans pm'
     ·rw [qbT,qbS,List.length_append,pr.length_eq,hlm]
      omega
    refine wpS_bind (wpS_get ?_)
    have ep:pendingOf (SS κ (kvs kv (flat R ++ (l ++ rest'))) (pend 0 R).toArray g)=(pend 0 R).toArray:=rfl
    rw [ep]
    by_cases hR:R=[]
    ·have:(pend 0 R).toArray.back?=none:=by rw [hR]; rfl
     rw [this]
     exact push R g (List.Perm.refl _) gd
    ·obtain ⟨⟨s1,n1,x1⟩,eb⟩:∃ b,(pend 0 R).toArray.back?=some b:=by
      obtain ⟨S,⟨l1,x⟩,rfl⟩:∃ S a,R=S ++ [a]:=⟨R.dropLast,R.getLast hR,(List.dropLast_concat_getLast hR).symm⟩
      rw [qaZ]
      exact ⟨_,by simp [pend]; rfl⟩
     rw [eb]
     dsimp only
     generalize power' n (2 * s1 + n1) (2 * s1 + n1 + n1 + m) n=pw
     refine wpS_bind (wpS_mono (wpS_forRange
      (I:=fun _ z st'=>∃ R' g',z=(none,())/\st'=SS κ (kvs kv (flat R' ++ (l ++ rest'))) (pend 0 R').toArray g'/\(flat R').Perm (flat R)/\Gd c R'/\R'≠[])
      (Q:=fun z st'=>∃ R' g',z=(none,())/\st'=SS κ (kvs kv (flat R' ++ (l ++ rest'))) (pend 0 R').toArray g'/\(flat R').Perm (flat R)/\Gd c R'/\R'≠[]) ?_ (fun _ _ z=>z) ⟨R,g,rfl,rfl,List.Perm.refl _,gd,hR⟩) ?_)
     ·rintro x z st' _ _ ⟨R',g',rfl,rfl,pr,gr,ne⟩
      refine wpS_bind (wpS_get ?_)
      have ep':pendingOf (SS κ (kvs kv (flat R' ++ (l ++ rest'))) (pend 0 R').toArray g')=(pend 0 R').toArray:=rfl
      rw [ep']
      have es:(pend 0 R').toArray.size=R'.length:=by rw [List.size_toArray,qaY]
      rw [es]
      by_cases e2:R'.length > 1
      ·rw [if_pos e2]
       obtain ⟨R1,⟨la,w1⟩,⟨lb,w2⟩,R2,rfl,hi⟩:=cut2 R' (R'.length - 2) (by omega)
       have:R2=[]:=List.length_eq_zero_iff.mp (by simp at hi; omega)
       subst this
       obtain ⟨b,eb2⟩:∃ b,(pend 0 (R1 ++ [(la,w1),(lb,w2)])).toArray[(R1 ++ [(la,w1),(lb,w2)]).length - 2]?=some b:=⟨_,getElem?_pos _ _ (by simp [qaY])⟩
       rw [eb2]
       obtain ⟨b1,b2,older⟩:=b
       dsimp only
       by_cases e3:older≤pw
       ·rw [if_pos e3]
        exact wpS_pure ⟨_,g',rfl,rfl,pr,gr,ne⟩
       ·rw [if_neg e3]
        have i1:=gr.right.up (la,w1) (by simp)
        have i2:=gr.right.up (lb,w2) (by simp)
        rw [<- hi]
        have ef:flat (R1 ++ [(la,w1),(lb,w2)]) ++ (l ++ rest')=flat R1 ++ la ++ lb ++ flat [] ++ (l ++ rest'):=by simp [flat]
        rw [ef]
        refine wpS_bind (qc5 C (R2:=[]) (rest:=l ++ rest') ?_ i1.1 i2.1 i1.2 i2.2 fun l' g2 pl al=>?_)
        ·rw [<- ef]
         exact (List.Perm.append_right _ pr).trans pm'
        ·simp only [Bool.not_true,Bool.false_eq_true,if_false]
         refine wpS_pure ⟨R1 ++ [(l',w1)],g2,rfl,?_,?_,gr.left.app (Gd.one al (by have:=pl.length_eq; simp at this; have:=i1.2; simp at this; omega)),by simp⟩
         ·congr 1
          simp [flat]
         ·refine List.Perm.trans ?_ pr
          rw [qbT,qbT,qbS,qkz]
          refine List.Perm.append_left _ ?_
          simpa [flat] using pl
      ·rw [if_neg e2]
       exact wpS_pure ⟨_,g',rfl,rfl,pr,gr,ne⟩
     ·rintro z st' ⟨R',g',rfl,rfl,pr,gr,ne⟩
      dsimp only
      obtain ⟨R3,em,ef,gg⟩:=qkr 0 R' ne (fun x=>(x.fst,x.2.fst,pw)) pw (fun _ _ _=>rfl)
      refine wpS_bind (wpS_modify ?_)
      show wpS _ _ _ _ _ _ (SS κ (kvs kv (flat R' ++ (l ++ rest'))) ((pend 0 R').toArray.modify ((pend 0 R').toArray.size - 1) fun x=>(x.fst,x.2.fst,pw)) g')
      rw [em,<- ef]
      exact push R3 g' (by rw [ef]; exact pr) (gg c gr)
 case post =>
  rintro z st' ⟨R,g,rfl,rfl,pm,gd⟩
  dsimp only
  have hl:=pm.length_eq
  rw [List.length_range] at hl
  have hR:R≠[]:=fun z=>by subst z; simp [flat] at hl; omega
  refine wpS_bind (wpS_mono (wpS_forRange
   (I:=fun k z st'=>∃ R g,z=(none,())/\st'=SS κ (kvs kv (flat R)) (pend 0 R).toArray g/\(flat R).Perm (List.range n)/\Gd c R/\R≠[]/\(R.length≤1\/R.length + k≤n))
   (Q:=fun z st'=>∃ R g,z=(none,())/\st'=SS κ (kvs kv (flat R)) (pend 0 R).toArray g/\(flat R).Perm (List.range n)/\Gd c R/\R≠[]/\R.length≤1) ?_ ?_ ⟨R,g,rfl,rfl,pm,gd,hR,.inr (by have:=qlc gd; omega)⟩) ?_)
  ·rintro k z st' _ hk ⟨R,g,rfl,rfl,pm,gd,hR,hk2⟩
   refine wpS_bind (wpS_get ?_)
   have ep':pendingOf (SS κ (kvs kv (flat R)) (pend 0 R).toArray g)=(pend 0 R).toArray:=rfl
   rw [ep']
   have es:(pend 0 R).toArray.size=R.length:=by rw [List.size_toArray,qaY]
   rw [es]
   by_cases e1:R.length≤1
   ·rw [if_pos e1]
    exact wpS_pure ⟨R,g,rfl,rfl,pm,gd,hR,e1⟩
   ·rw [if_neg e1]
    refine wpS_bind (qmh (P:=fun i=>wpS _ _ _ _ (mergeAt' i) _ _) fun i hi0=>?_)
    have hi:i + 2≤R.length:=by omega
    obtain ⟨R1,⟨la,w1⟩,⟨lb,w2⟩,R2,rfl,hi2⟩:=cut2 R i hi
    have i1:=gd.right.up (la,w1) (by simp)
    have i2:=gd.right.up (lb,w2) (by simp)
    have ef:flat (R1 ++ (la,w1) :: (lb,w2) :: R2)=flat R1 ++ la ++ lb ++ flat R2 ++ []:=by simp [flat]
    rw [ef,<- hi2]
    refine (qc5 C (rest:=[]) ?_ i1.1 i2.1 i1.2 i2.2 fun l' g2 pl al=>?_)
    ·rw [<- ef]; exact pm
    ·simp only [Bool.not_true,Bool.false_eq_true,if_false]
     have ef':flat (R1 ++ (l',w1) :: R2)=flat R1 ++ l' ++ flat R2 ++ []:=by simp [flat]
     refine wpS_pure ⟨R1 ++ (l',w1) :: R2,g2,rfl,?_,?_,?_,by simp,.inr ?_⟩
     ·rw [ef']
     ·refine List.Perm.trans ?_ pm
      rw [ef,ef']
      simp only [List.append_nil,List.append_assoc]
      refine List.Perm.append_left _ ?_
      rw [<- List.append_assoc]
      exact List.Perm.append_right _ pl
     ·refine gd.left.app ((Gd.one (x:=w1) al (by have:=pl.length_eq; simp at this; have:=i1.2; simp at this; omega)).app (R:=[(l',w1)]) (S:=R2) ⟨fun r hr=>gd.right.up r (by simp [hr])⟩)
     ·simp at hk2 e1 ⊢
      omega
  ·rintro z st' ⟨R,g,rfl,rfl,pm,gd,hR,hk2⟩
   exact ⟨R,g,rfl,rfl,pm,gd,hR,by omega⟩
  ·rintro z st' ⟨R,g,rfl,rfl,pm,gd,hR,h1⟩
   dsimp only
   obtain ⟨⟨l,x⟩,rfl⟩:∃ r,R=[r]:=by
    match R,hR,h1 with
    | [r],_,_=>exact ⟨r,rfl⟩
   rw [qbS] at pm ⊢
   exact wpS_pure (h l _ g pm (gd.up (l,x) (by simp)).1)
end
section
variable {prog:Program}{w:World}{A:Around}{E:Value->Shared->Prop}{s:Shared}
def Kept (a:Addr)(h h':Heap):Prop:=∀ b o,b≠a->h.get? b=some o->h'.get? b=some o
structure Asks (prog:Program)(w:World)(A:Around)(vs:List Value)(c:Nat->Nat->Bool)(κ:SortKind)(s:Shared):Prop where
 kind:∀ (E:Value->Shared->Prop) (Q:SortKind->Shared->Prop),Q κ s->wpAny (model prog w) A (keyKind' vs.toArray) Q E s
 less:∀ i j,In vs.length i j->∀ (Q:Bool->Shared->Prop),Q (c i j) s->wpAny (model prog w) A (keyLt' κ (vs.getD i Value.none) (vs.getD j Value.none)) Q (fun _ _=>False) s
abbrev qem (vs:List Value)(p:Array Nat):Array Value:=List.toArray (p.toList.map fun i=>vs.getD i Value.none)
theorem range_getD (vs:List Value):((List.range vs.length).map fun i=>vs.getD i Value.none)=vs:=by
 refine List.ext_getElem (by simp) fun i h1 h2=>?_
 simp at h1
 simp [h1]
theorem qjV {vs:List Value}{c:Nat->Nat->Bool}(O:Ord c){κ:SortKind}(h2:2≤vs.length)
  (less:∀ i j,In vs.length i j->∀ (Q:Bool->Shared->Prop),Q (c i j) s->wpAny (model prog w) A (keyLt' κ (vs.getD i Value.none) (vs.getD j Value.none)) Q (fun _ _=>False) s) :
  wpAny (model prog w) A ((sortRuns').run (SortSt.mk' κ (vs.toArray.zip vs.toArray) #[] 7 none)) (fun r s'=>s'=s/\failedOf r.2=none/\∃ p,Of vs.length p/\Up c p vs.length/\(arrOf r.2).map (·.2)=qem vs p) E s:=by
 have C:Cmp prog w A E s c (fun i=>(vs.getD i Value.none,vs.getD i Value.none)) κ vs.length:=⟨O,fun x y hi st hk Q hQ=>by
  rw [lt'_eq]
  refine wpS_bind (wpS_get ?_)
  rw [hk]
  refine wpS_bind (wpS_lift (wpAny_attempt (wpAny_mono (less x y hi (fun b s'=>s'=s/\b=c x y) ⟨rfl,rfl⟩) (fun b s' z=>?_) fun _ _ z=>z.elim)))
  obtain ⟨rfl,rfl⟩:=z
  exact ⟨rfl,wpS_pure hQ⟩⟩
 have e0:vs.toArray.zip vs.toArray=kvs (fun i=>(vs.getD i Value.none,vs.getD i Value.none)) (List.range vs.length):=by
  apply Array.toList_inj.mp
  rw [Array.toList_zip]
  refine List.ext_getElem (by simp) fun i h1 h2=>?_
  simp at h1
  simp [h1]
 rw [e0]
 refine qjJ (Q:=fun _ st'=>failedOf st'=none/\∃ p,Of vs.length p/\Up c p vs.length/\(arrOf st').map (·.2)=qem vs p) C h2 fun l pd g pm as=>⟨rfl,l.toArray,qk6 pm,fun i j hij hj=>?_,?_⟩
 ·have hl:=pm.length_eq
  rw [List.length_range] at hl
  rw [qcP (p:=l.toArray) (show i < l.length by omega),qcP (p:=l.toArray) (show j < l.length by omega)]
  exact qbY O as hij (by omega)
 ·apply Array.toList_inj.mp
  show (Array.map (·.2) (kvs _ l)).toList=_
  rw [Array.toList_map]
  simp
theorem qe8 {a:Addr}{vs:List Value}{n:Nat}{P:PySem.Fin->Shared->Prop}{c:Nat->Nat->Bool}(O:Ord c){κ:SortKind}(at0:s.heap.get? a=some (seqObj "list" vs.toArray n))(few:vs.length < 65536)
  (ak:2≤vs.length->∀ h':Heap,Kept a s.heap h'->Asks prog w A vs c κ { s with heap:=h' })
  (fin:∀ p:Array Nat,Of vs.length p->Up c p vs.length->P (.done (.ret .none)) { s with heap:=sortedHeap s.heap a vs (qem vs p) }):wpAny (model prog w) A (Builtin.«list.sort» ⟨[.ref a],[]⟩) P E s:=by
 rw [list_sort_plain]
 have la:a < s.heap.objs.size:=Heap.lt_size at0
 refine wpAny_bind (listItems_at at0 rfl (wpAny_bind (listUpdate_at at0 rfl ?_ (by rw [List.size_toArray,sizeLine_eq]; omega) (Nat.zero_le _))))
 obtain ⟨e1,at1⟩:∃ e1,(s.heap.update a (Obj.mapSeq fun _=>(#[]:Array Value))).get? a=some (seqObj "list" #[] e1):=⟨_,get?_update_seq at0 fun _=>#[]⟩
 refine wpAny_bind (seqEpoch_at at1 rfl (wpAny_bind (wpAny_newTuple (wpAny_bind (wpAny_newList (wpAny_holding ?_))) (by rw [sizeLine_eq]; simp; omega))))
 have at2:(((s.heap.update a (Obj.mapSeq fun _=>(#[]:Array Value))).push (seqObj "tuple" vs.toArray 0)).push (seqObj "list" #[] 0)).get? a=some (seqObj "list" #[] e1):=Heap.get?_push_of_some _ (Heap.get?_push_of_some _ at1)
 have kp:Kept a s.heap (((s.heap.update a (Obj.mapSeq fun _=>(#[]:Array Value))).push (seqObj "tuple" vs.toArray 0)).push (seqObj "list" #[] 0)):=fun b o nb e =>
  Heap.get?_push_of_some _ (Heap.get?_push_of_some _ ((Heap.get?_update_ne _ _ _ _ nb).trans e))
 show wpAny (model prog w) A _ P E { s with heap:=((s.heap.update a (Obj.mapSeq fun _=>(#[]:Array Value))).push (seqObj "tuple" vs.toArray 0)).push (seqObj "list" #[] 0) }
 dsimp only
 have zz:vs.toArray.size=vs.length:=by simp
 by_cases few2:vs.toArray.size < 2
 ·rw [if_pos few2,if_pos few2]
  refine wpAny_bind (wpAny_pure ?_)
  rw [StateT.run_pure]
  refine wpAny_bind (wpAny_pure (wpAny_bind (seqEpoch_at at2 rfl (wpAny_bind (listUpdate_at at2 rfl ?_ (by simp) (by show (Array.map _ (vs.toArray.zip vs.toArray)).size≤_; simp; rw [sizeLine_eq]; omega))))))
  simp only [bne_self_eq_false,Bool.false_eq_true,if_false]
  have eo:qem vs (List.toArray (List.range vs.length))=Array.map (·.2) (vs.toArray.zip vs.toArray):=by
   apply Array.toList_inj.mp
   show (List.range vs.length).map _=_
   rw [range_getD,Array.toList_map]
   simp only [Array.toList_zip]
   exact (List.map_snd_zip (Nat.le_refl _)).symm
  have:=fin (List.toArray (List.range vs.length)) (Array.Perm.refl _) (fun i j x y=>by
   have:i=j:=by omega
   subst this; exact O.irr _)
  rw [eo] at this
  exact wpAny_pure this
 ·rw [if_neg few2,if_neg few2]
  have K:=ak (by omega) _ kp
  refine wpAny_bind (K.kind _ _ ?_)
  refine wpAny_bind (wpAny_mono (qjV O (by omega) K.less) ?_ fun _ _ e=>e)
  ·rintro ⟨⟨⟩,st'⟩ s' ⟨rfl,hf,p,o1,o2,eo⟩
   dsimp only
   refine wpAny_bind (seqEpoch_at at2 rfl (wpAny_bind (listUpdate_at at2 rfl ?_ (by simp) (by rw [eo]; show (qem vs p).size≤_; simp; rw [o1.size,sizeLine_eq]; omega))))
   rw [hf]
   simp only [bne_self_eq_false,Bool.false_eq_true,if_false]
   have:=fin p o1 o2
   rw [<- eo] at this
   exact wpAny_pure this
end
section
variable {prog:Program}{w:World}{A:Around}{E:Value->Shared->Prop}{s:Shared}
def Told (prog:Program)(w:World)(A:Around)(Q:Value->Shared->Prop)(vs:List Value)(s1:Shared):Prop :=
 vs.length < 65536/\∃ c κ,Ord c/\(2≤vs.length->∀ h':Heap,(∀ b o,s1.heap.get? b=some o->h'.get? b=some o)->Asks prog w A vs c κ { s1 with heap:=h' }) /\
  ∀ p e (h':Heap),Of vs.length p->Up c p vs.length->(∀ b o,s1.heap.get? b=some o->h'.get? b=some o)->h'.get? s1.heap.objs.size=some (seqObj "list" (qem vs p) e)->Q (.ref s1.heap.objs.size) { s1 with heap:=h' }
theorem qeO {x:Value}{Q:Value->Shared->Prop}(col:wpAny (model prog w) A.in1 (collect x) (Told prog w A.in1.in1 Q) E s):wpAny (model prog w) A (call (.builtin "sorted") [x]) Q E s:=by
 refine Calls.call_function_entry kind_sorted plain_sorted entry_sorted (args_sorted1 _) ?_
 unfold Builtin.«sorted»
 refine wpAny_bind (m:=checkCount "sorted" 1 1 _) (wpAny_pure (wpAny_bind (wpAny_mono col (fun vs s1 told=>?_) fun _ _ e=>e)))
 obtain ⟨few,c,κ,O,ak,fin⟩:=told
 refine wpAny_bind (wpAny_newList ?_ (by rw [sizeLine_eq]; omega))
 have at0:(s1.heap.push (seqObj "list" vs.toArray 0)).get? s1.heap.objs.size=some (seqObj "list" vs.toArray 0):=Heap.get?_push_size _ rfl
 refine wpAny_bind (wpAny_holding (wpAny_call_entry slot_list_sort ⟨_,at0,rfl⟩ entry_list_sort (qe8 (s:={ s1 with heap:=s1.heap.push (seqObj "list" vs.toArray 0) }) O at0 few (fun h2 h' kp=>ak h2 h' fun b o e=>kp b o (Nat.ne_of_lt (Heap.lt_size e)) (Heap.get?_push_of_some _ e)) fun p o1 o2=>⟨_,rfl,wpAny_pure ⟨_,rfl,?_⟩⟩) (args_list_sort _)))
 obtain ⟨e,he⟩:=sortedHeap_at (out:=qem vs p) at0
 refine fin p e _ o1 o2 (fun b o q=>?_) he
 have lt:=Heap.lt_size q
 rw [sortedHeap_old (Nat.ne_of_lt lt) (by show b < (s1.heap.push _).objs.size; rw [size_push']; exact Nat.lt_succ_of_lt lt)]
 exact Heap.get?_push_of_some _ q
end
end Srt
namespace DI
open PySem PySem.W PyProof.Rows
def DEnt (h:Heap)(d:Addr)(es:Array DictEntry)(ep:Nat):Prop:=∃ o,h.get? d=some o/\o.ExactDict/\o.data = .dict es ep
theorem DEnt.ty {s:Shared}{d:Addr}{es:Array DictEntry}{ep:Nat}(x:DEnt s.heap d es ep):s.TypeIs (.ref d) "dict" := let ⟨o,e,c,_⟩:=x; ⟨o,e,c.1⟩
theorem DEnt.at {h h':Heap}{d:Addr}{es:Array DictEntry}{ep:Nat}(x:DEnt h d es ep)(k:∀ o,h.get? d=some o->h'.get? d=some o):DEnt h' d es ep:=let ⟨o,e,c⟩:=x; ⟨o,k o e,c⟩
section
variable {prog:Program}{w:World}{A:Around}{E:Value->Shared->Prop}{s:Shared}{it d:Addr}{es:Array DictEntry}{i ep:Nat}
theorem qgS {Q:Option Value->Shared->Prop}(ki:s.heap.IsKeyIter it d i es.size ep)(de:DEnt s.heap d es ep)(li:i < es.size)
  (fin:∀ h',h'.IsKeyIter it d (i + 1) es.size ep->Heap.SameBut it s.heap h'->Q (some es[i].key) { s with heap:=h' }):wpAny (model prog w) A (pyNext (.ref it)) Q E s:=by
 obtain ⟨oi,gi,ci,fi⟩:=id ki
 obtain ⟨od,gd,xd,dd⟩:=de
 have ti:=ki.typeIs
 unfold pyNext
 refine wpAny_bind (wpAny_attempt (wpAny_callSpecial?_slot (name:=Str.ofString "__next__") ti F.slot_dict_keyiterator_next (wpAny_call_entry F.slot_dict_keyiterator_next ti F.entry_dict_keyiterator_next (wpAny_bind (wpAny_pure (wpAny_bind (wpAny_bind ?_)))) (F.args_dict_keyiterator_next_1 _))))
 refine wpAny_bind (wpAny_typeNameOfWhole_keyiter ti (wpAny_pure (wpAny_bind (wpAny_fieldsOf gi fi ?_))))
 simp only [show Builtin.Dict_items.ownsTuple "dict_keyiterator" = false by decide,Bool.false_eq_true,if_false]
 show wpAny _ _ (if (Value.ref d == Value.none)=true then _ else _) _ _ s
 rw [if_neg (show ¬ ((Value.ref d == Value.none)=true) from Bool.false_ne_true)]
 refine wpAny_bind (wpAny_pure (wpAny_bind (wpAny_dictEntries gd dd ?_)))
 rw [if_neg (by simp)]
 refine wpAny_bind (wpAny_pure (wpAny_bind (wpAny_dictEpoch gd dd ?_)))
 rw [if_neg (by simp)]
 refine wpAny_pure ?_
 simp only [show ¬ ((i:Int) < 0) from by omega,if_false,Int.toNat_natCast,Array.getElem?_eq_getElem li]
 refine wpAny_bind (wpAny_bind (wpAny_typeNameOfWhole_keyiter ti (wpAny_pure (wpAny_bind (wpAny_isOneOf_keyiter ti ?_)))))
 show wpAny _ _ (setField (.ref it) 1 (rawInt ((i:Int) + 1)) >>= _) _ _ s
 have nx:(s.heap.update it (Obj.mapFields (·.setIfInBounds 1 (rawInt ((i:Int) + 1))))).IsKeyIter it d (i + 1) es.size ep :=
  ⟨_,Heap.get?_update_self _ gi (Obj.isFreed_of_fields (Obj.data_mapFields fi _)),(Obj.cls_mapFields ..).trans ci,by rw [Obj.data_mapFields fi]; simp [rawInt]⟩
 have tn:Shared.TypeIs { s with heap:=s.heap.update it (Obj.mapFields (·.setIfInBounds 1 (rawInt ((i:Int) + 1)))) } (.ref it) "dict_keyiterator" := Heap.IsKeyIter.typeIs (s:={ s with heap:=s.heap.update it (Obj.mapFields (·.setIfInBounds 1 (rawInt ((i:Int) + 1)))) }) nx
 refine wpAny_bind (wpAny_setField gi fi (by simp) (wpAny_bind (wpAny_holding (wpAny_bind (wpAny_isOneOf_keyiter tn ?_)))))
 show wpAny _ _ (pure es[i].key) _ _ _
 exact wpAny_pure (wpAny_pure ⟨_,rfl,wpAny_pure (fin _ nx (Heap.SameBut.update ..))⟩)
theorem qiT {Q:Option Value->Shared->Prop}(hh:A.handled=none)(ki:s.heap.IsKeyIter it d i es.size ep)(de:DEnt s.heap d es ep)(li:es.size≤i)(fin:∀ h',Heap.ExtBut it s.heap h'->Q none { s with heap:=h' }) :
  wpAny (model prog w) A (pyNext (.ref it)) Q E s:=by
 obtain ⟨oi,gi,ci,fi⟩:=id ki
 obtain ⟨od,gd,xd,dd⟩:=de
 have ti:=ki.typeIs
 unfold pyNext
 refine wpAny_bind (wpAny_attempt (wpAny_callSpecial?_slot (name:=Str.ofString "__next__") ti F.slot_dict_keyiterator_next (wpAny_call_entry F.slot_dict_keyiterator_next ti F.entry_dict_keyiterator_next (wpAny_bind (wpAny_pure (wpAny_bind (wpAny_bind ?_)))) (F.args_dict_keyiterator_next_1 _))))
 refine wpAny_bind (wpAny_typeNameOfWhole_keyiter ti (wpAny_pure (wpAny_bind (wpAny_fieldsOf gi fi ?_))))
 simp only [show Builtin.Dict_items.ownsTuple "dict_keyiterator" = false by decide,Bool.false_eq_true,if_false]
 show wpAny _ _ (if (Value.ref d == Value.none)=true then _ else _) _ _ s
 rw [if_neg (show ¬ ((Value.ref d == Value.none)=true) from Bool.false_ne_true)]
 refine wpAny_bind (wpAny_pure (wpAny_bind (wpAny_dictEntries gd dd ?_)))
 rw [if_neg (by simp)]
 refine wpAny_bind (wpAny_pure (wpAny_bind (wpAny_dictEpoch gd dd ?_)))
 rw [if_neg (by simp)]
 refine wpAny_pure ?_
 simp only [show ¬ ((i:Int) < 0) from by omega,if_false,Int.toNat_natCast,Array.getElem?_eq_none li]
 refine wpAny_bind (wpAny_bind (wpAny_typeNameOfWhole_keyiter ti (wpAny_pure ?_)))
 show wpAny _ _ (setField (.ref it) 0 .none >>= _) _ _ s
 refine wpAny_bind (wpAny_setField gi fi (by simp) ?_)
 show wpAny _ _ (newExc (.type "StopIteration") [] >>= _) _ _ _
 refine wpAny_bind ?_
 simp only [newExc,newTuple]
 refine wpAny_bind (wpAny_newObj_type (wpAny_bind (m:=firstArgMember _ _) (wpAny_of_eq (a:=Value.none) (by first | rfl | (simp only [firstArgMember]; rfl)) (wpAny_newObj_type ?_ (by size_fits)))) (by size_fits))
 simp only [raiseNew]
 refine wpAny_bind (wpAny_handled ?_)
 rw [show A.in1.handled=none from hh]
 refine wpAny_bind (wpAny_pure (wpAny_throw ?_))
 refine wpAny_bind (wpAny_isInstance (T := "StopIteration") (b:=true) ⟨_,Heap.get?_push_size _ rfl,rfl⟩ isSubtype_stop (wpAny_pure (fin _ ?_)))
 exact ((Heap.SameBut.update ..).extBut.push _).push _
theorem qgT {Q:Value->Shared->Prop}(hd:(d == sysModules)=false)(de:DEnt s.heap d es ep)(fin:Q (.ref s.heap.objs.size) { s with heap:=s.heap.push { cls := .type "dict_keyiterator",data := .fields #[.ref d,.int 0 0,.int es.size 0,.int ep 0] } }):wpAny (model prog w) A (pyIter (.ref d)) Q E s:=by
 have td:=de.ty
 obtain ⟨od,gd,xd,dd⟩:=id de
 refine wpAny_pyIter_slot td F.slot_dict_iter (wpAny_call_entry F.slot_dict_iter td F.entry_dict_iter ?_ (F.args_dict_iter_1 _))
 unfold Builtin.«dict.__iter__» Builtin.Dict.dictSlotNone
 refine wpAny_bind (wpAny_bind (wpAny_notOrdered_dict td ?_))
 show wpAny _ _ (pure (Value.ref d)) _ _ s
 refine wpAny_pure ?_
 show wpAny _ _ (Builtin.Dict.showsAll d >>= _) _ _ s
 unfold Builtin.Dict.showsAll
 rw [if_neg (by rw [hd]; exact Bool.false_ne_true)]
 refine wpAny_bind (wpAny_pure (wpAny_bind (wpAny_dictEntries gd dd (wpAny_bind (wpAny_dictEpoch gd dd ?_)))))
 exact wpAny_bind (wpAny_newObj_type (wpAny_pure ⟨_,rfl, "dict_keyiterator",_,⟨_,Heap.get?_push_size _ rfl,rfl⟩,F.slot_dict_keyiterator_next.lookup,by simpa [rawInt] using fin⟩))
theorem qfx (hd:(d == sysModules)=false):MeetsIn prog w (Builtin.«dict.values» ⟨[.ref d],[]⟩) (fun _ R s=>(∃ es ep,DEnt s.heap d es ep)/\R (.ok (.ret (.ref s.heap.objs.size))) { s with heap:=s.heap.push { cls := .type "dict_values",data := .fields #[.ref d] } }) :=
 .of_wp fun A R s ⟨⟨es,ep,de⟩,h⟩=>by
  refine wpAny_bind (β:=PySem.Fin) (α:=Addr) ?_
  unfold Builtin.Dict.noArgs
  refine wpAny_bind (wpAny_notOrdered_dict de.ty ?_)
  show wpAny _ _ (pure d) _ _ s
  refine wpAny_pure ?_
  show wpAny _ _ (Builtin.Dict.showsAll d >>= _) _ _ s
  unfold Builtin.Dict.showsAll
  rw [if_neg (by rw [hd]; exact Bool.false_ne_true)]
  exact wpAny_bind (wpAny_pure (wpAny_bind (wpAny_newObj_type (wpAny_pure ⟨_,rfl,h⟩))))
theorem qdI (hd:(d == sysModules)=false):MeetsIn prog w (Builtin.«dict.items» ⟨[.ref d],[]⟩) (fun _ R s=>(∃ es ep,DEnt s.heap d es ep)/\R (.ok (.ret (.ref s.heap.objs.size))) { s with heap:=s.heap.push { cls := .type "dict_items",data := .fields #[.ref d] } }) :=
 .of_wp fun A R s ⟨⟨es,ep,de⟩,h⟩=>by
  unfold Builtin.«dict.items» Builtin.Dict.noArgs
  refine wpAny_bind (wpAny_bind (wpAny_notOrdered_dict de.ty ?_))
  show wpAny _ _ (pure d) _ _ s
  refine wpAny_pure ?_
  show wpAny _ _ (Builtin.Dict.showsAll d >>= _) _ _ s
  unfold Builtin.Dict.showsAll
  rw [if_neg (by rw [hd]; exact Bool.false_ne_true)]
  exact wpAny_bind (wpAny_pure (wpAny_bind (wpAny_newObj_type (wpAny_pure ⟨_,rfl,h⟩))))
theorem qjM {v:Addr}{Q:Value->Shared->Prop}(vw:s.heap.IsValuesView v d)(de:DEnt s.heap d es ep)(fin:Q (.ref s.heap.objs.size) { s with heap:=s.heap.push { cls := .type "dict_valueiterator",data := .fields #[.ref d,.int 0 0,.int es.size 0,.int ep 0] } }):wpAny (model prog w) A (pyIter (.ref v)) Q E s:=by
 obtain ⟨ov,gv,cv,fv⟩:=id vw
 obtain ⟨od,gd,xd,dd⟩:=id de
 refine wpAny_pyIter_slot vw.typeIs F.slot_dict_values_iter (wpAny_call_entry F.slot_dict_values_iter vw.typeIs F.entry_dict_values_iter ?_ (F.args_dict_values_iter_1 _))
 unfold Builtin.«dict_values.__iter__» Builtin.Dict_items.dictOf Builtin.Dict_items.newIterator
 refine wpAny_bind (wpAny_pure (wpAny_bind (wpAny_bind (wpAny_field gv fv (x := .ref d) rfl (wpAny_pure (wpAny_bind (wpAny_bind (wpAny_dictEntries gd dd (wpAny_bind (wpAny_dictEpoch gd dd ?_))))))))))
 simp only [show Builtin.Dict_items.ownsTuple "dict_valueiterator" = false by decide,Bool.false_eq_true,if_false]
 exact wpAny_newObj_type (wpAny_pure ⟨_,rfl, "dict_valueiterator",_,⟨_,Heap.get?_push_size _ rfl,rfl⟩,F.slot_dict_valueiterator_next.lookup,by simpa [rawInt] using fin⟩)
theorem qff {v:Addr}{Q:Value->Shared->Prop}(vw:s.heap.IsItemsView v d)(de:DEnt s.heap d es ep)(fin:∀ h',IsItemIter h' s.heap.objs.size d 0 es.size ep .none .none->(∀ b o,s.heap.get? b=some o->h'.get? b=some o)->Q (.ref s.heap.objs.size) { s with heap:=h' }):wpAny (model prog w) A (pyIter (.ref v)) Q E s:=by
 obtain ⟨ov,gv,cv,fv⟩:=id vw
 obtain ⟨od,gd,xd,dd⟩:=id de
 refine wpAny_pyIter_slot vw.typeIs F.slot_dict_items_iter (wpAny_call_entry F.slot_dict_items_iter vw.typeIs F.entry_dict_items_iter ?_ (F.args_dict_items_iter_1 _))
 unfold Builtin.«dict_items.__iter__» Builtin.Dict_items.dictOf Builtin.Dict_items.newIterator
 refine wpAny_bind (wpAny_pure (wpAny_bind (wpAny_bind (wpAny_field gv fv (x := .ref d) rfl (wpAny_pure (wpAny_bind (wpAny_bind (wpAny_dictEntries gd dd (wpAny_bind (wpAny_dictEpoch gd dd ?_))))))))))
 simp only [show Builtin.Dict_items.ownsTuple "dict_itemiterator" = true by decide,if_true]
 refine wpAny_newObj_type (wpAny_pure ⟨_,rfl, "dict_itemiterator",_,⟨_,Heap.get?_push_size _ rfl,rfl⟩,F.slot_dict_itemiterator_next.lookup,fin _ ?_ fun b o e=>Heap.get?_push_of_some _ e⟩) (by simp only [sizeOk,Builtin.Dict_items.ownedTupleFields,List.size_toArray,List.length_append,List.length_cons,List.length_nil,sizeLine_eq]; omega)
 exact Heap.get?_push_size _ rfl
theorem qjL {Q:Option Value->Shared->Prop}(ki:s.heap.IsValIter it d i es.size ep)(de:DEnt s.heap d es ep)(li:i < es.size)
  (fin:∀ h',h'.IsValIter it d (i + 1) es.size ep->Heap.SameBut it s.heap h'->Q (some es[i].val) { s with heap:=h' }):wpAny (model prog w) A (pyNext (.ref it)) Q E s:=by
 obtain ⟨oi,gi,ci,fi⟩:=id ki
 obtain ⟨od,gd,xd,dd⟩:=de
 have ti:=ki.typeIs
 unfold pyNext
 refine wpAny_bind (wpAny_attempt (wpAny_callSpecial?_slot (name:=Str.ofString "__next__") ti F.slot_dict_valueiterator_next (wpAny_call_entry F.slot_dict_valueiterator_next ti F.entry_dict_valueiterator_next (wpAny_bind (wpAny_pure (wpAny_bind (wpAny_bind ?_)))) (F.args_dict_valueiterator_next_1 _))))
 refine wpAny_bind (wpAny_typeNameOfWhole_valiter ti (wpAny_pure (wpAny_bind (wpAny_fieldsOf gi fi ?_))))
 simp only [show Builtin.Dict_items.ownsTuple "dict_valueiterator" = false by decide,Bool.false_eq_true,if_false]
 show wpAny _ _ (if (Value.ref d == Value.none)=true then _ else _) _ _ s
 rw [if_neg (show ¬ ((Value.ref d == Value.none)=true) from Bool.false_ne_true)]
 refine wpAny_bind (wpAny_pure (wpAny_bind (wpAny_dictEntries gd dd ?_)))
 rw [if_neg (by simp)]
 refine wpAny_bind (wpAny_pure (wpAny_bind (wpAny_dictEpoch gd dd ?_)))
 rw [if_neg (by simp)]
 refine wpAny_pure ?_
 simp only [show ¬ ((i:Int) < 0) from by omega,if_false,Int.toNat_natCast,Array.getElem?_eq_getElem li]
 refine wpAny_bind (wpAny_bind (wpAny_typeNameOfWhole_valiter ti (wpAny_pure (wpAny_bind (wpAny_isOneOf_valiter ti ?_)))))
 show wpAny _ _ (setField (.ref it) 1 (rawInt ((i:Int) + 1)) >>= _) _ _ s
 have nx:(s.heap.update it (Obj.mapFields (·.setIfInBounds 1 (rawInt ((i:Int) + 1))))).IsValIter it d (i + 1) es.size ep :=
  ⟨_,Heap.get?_update_self _ gi (Obj.isFreed_of_fields (Obj.data_mapFields fi _)),(Obj.cls_mapFields ..).trans ci,by rw [Obj.data_mapFields fi]; simp [rawInt]⟩
 have tn:Shared.TypeIs { s with heap:=s.heap.update it (Obj.mapFields (·.setIfInBounds 1 (rawInt ((i:Int) + 1)))) } (.ref it) "dict_valueiterator" := Heap.IsValIter.typeIs (s:={ s with heap:=s.heap.update it (Obj.mapFields (·.setIfInBounds 1 (rawInt ((i:Int) + 1)))) }) nx
 refine wpAny_bind (wpAny_setField gi fi (by simp) (wpAny_bind (wpAny_holding (wpAny_bind (wpAny_isOneOf_valiter tn ?_)))))
 refine wpAny_bind (wpAny_isOneOf_valiter tn ?_)
 show wpAny _ _ (pure es[i].val) _ _ _
 exact wpAny_pure (wpAny_pure ⟨_,rfl,wpAny_pure (fin _ nx (Heap.SameBut.update ..))⟩)
theorem qlo {Q:Option Value->Shared->Prop}(hh:A.handled=none)(ki:s.heap.IsValIter it d i es.size ep)(de:DEnt s.heap d es ep)(li:es.size≤i)(fin:∀ h',Heap.ExtBut it s.heap h'->Q none { s with heap:=h' }) :
  wpAny (model prog w) A (pyNext (.ref it)) Q E s:=by
 obtain ⟨oi,gi,ci,fi⟩:=id ki
 obtain ⟨od,gd,xd,dd⟩:=de
 have ti:=ki.typeIs
 unfold pyNext
 refine wpAny_bind (wpAny_attempt (wpAny_callSpecial?_slot (name:=Str.ofString "__next__") ti F.slot_dict_valueiterator_next (wpAny_call_entry F.slot_dict_valueiterator_next ti F.entry_dict_valueiterator_next (wpAny_bind (wpAny_pure (wpAny_bind (wpAny_bind ?_)))) (F.args_dict_valueiterator_next_1 _))))
 refine wpAny_bind (wpAny_typeNameOfWhole_valiter ti (wpAny_pure (wpAny_bind (wpAny_fieldsOf gi fi ?_))))
 simp only [show Builtin.Dict_items.ownsTuple "dict_valueiterator" = false by decide,Bool.false_eq_true,if_false]
 show wpAny _ _ (if (Value.ref d == Value.none)=true then _ else _) _ _ s
 rw [if_neg (show ¬ ((Value.ref d == Value.none)=true) from Bool.false_ne_true)]
 refine wpAny_bind (wpAny_pure (wpAny_bind (wpAny_dictEntries gd dd ?_)))
 rw [if_neg (by simp)]
 refine wpAny_bind (wpAny_pure (wpAny_bind (wpAny_dictEpoch gd dd ?_)))
 rw [if_neg (by simp)]
 refine wpAny_pure ?_
 simp only [show ¬ ((i:Int) < 0) from by omega,if_false,Int.toNat_natCast,Array.getElem?_eq_none li]
 refine wpAny_bind (wpAny_bind (wpAny_typeNameOfWhole_valiter ti (wpAny_pure ?_)))
 show wpAny _ _ (setField (.ref it) 0 .none >>= _) _ _ s
 refine wpAny_bind (wpAny_setField gi fi (by simp) ?_)
 show wpAny _ _ (newExc (.type "StopIteration") [] >>= _) _ _ _
 refine wpAny_bind ?_
 simp only [newExc,newTuple]
 refine wpAny_bind (wpAny_newObj_type (wpAny_bind (m:=firstArgMember _ _) (wpAny_of_eq (a:=Value.none) (by first | rfl | (simp only [firstArgMember]; rfl)) (wpAny_newObj_type ?_ (by size_fits)))) (by size_fits))
 simp only [raiseNew]
 refine wpAny_bind (wpAny_handled ?_)
 rw [show A.in1.handled=none from hh]
 refine wpAny_bind (wpAny_pure (wpAny_throw ?_))
 refine wpAny_bind (wpAny_isInstance (T := "StopIteration") (b:=true) ⟨_,Heap.get?_push_size _ rfl,rfl⟩ isSubtype_stop (wpAny_pure (fin _ ?_)))
 exact ((Heap.SameBut.update ..).extBut.push _).push _
def ItAt (h:Heap)(it d:Addr)(i n ep:Nat):Prop:=∃ f0 f1 ok ov,h.get? it=some { cls := .type "dict_itemiterator",dict:=none,data := .fields #[f0,f1,.ref d,.int i 0,.int n 0,.int ep 0,ok,ov],slots:=#[] }/\(f0 = .none\/∃ a,f0 = .int a 0)
theorem ItAt.ty {s:Shared}{it d:Addr}{i n ep:Nat}(x:ItAt s.heap it d i n ep):s.TypeIs (.ref it) "dict_itemiterator" := let ⟨_,_,_,_,e,_⟩:=x; ⟨_,e,rfl⟩
theorem ItAt.at {h h':Heap}{it d:Addr}{i n ep:Nat}(x:ItAt h it d i n ep)(k:∀ o,h.get? it=some o->h'.get? it=some o):ItAt h' it d i n ep:=let ⟨a,b,c,e,q,r⟩:=x; ⟨a,b,c,e,k _ q,r⟩
theorem qmj {i n:Nat}{Q:Bool->Shared->Prop}(ii:ItAt s.heap it d i n ep)(fin:∀ b h',ItAt h' it d i n ep->Heap.SameBut it s.heap h'->Q b { s with heap:=h' }):wpAny (model prog w) A (Builtin.Dict_items.ownedTupleIsFree (.ref it)) Q E s:=by
 obtain ⟨f0,f1,ok,ov,gi,c0⟩:=ii
 have same:Heap.SameBut it s.heap s.heap:=⟨rfl,fun _ _=>rfl⟩
 unfold Builtin.Dict_items.ownedTupleIsFree
 refine wpAny_bind (wpAny_field gi rfl (x:=f0) rfl ?_)
 rcases c0 with rfl | ⟨a,rfl⟩
 ·exact wpAny_pure (fin _ _ ⟨_,_,_,_,gi,.inl rfl⟩ same)
 ·show wpAny _ _ (loadIfAlive a.toNat >>= _) _ _ s
  refine wpAny_bind ?_
  have al:∀ {Q:Option Obj->Shared->Prop},Q (s.heap.get? a.toNat) s->wpAny (model prog w) A (loadIfAlive a.toNat) Q E s:=fun hQ _ _ _=>hQ
  refine al ?_
  cases e:s.heap.get? a.toNat with
  | none=>exact wpAny_pure (fin _ _ ⟨_,_,_,_,gi,.inr ⟨a,rfl⟩⟩ same)
  | some o =>
   show wpAny _ _ (field (.ref it) 1 >>= _) _ _ s
   refine wpAny_bind (wpAny_field gi rfl (x:=f1) rfl ?_)
   by_cases e1:(f1 != Value.bool true)=true
   ·rw [if_pos e1]
    exact wpAny_bind (wpAny_setField_rec gi (by simp) fun g1 z1 s1=>wpAny_pure (fin _ g1 ⟨_,_,_,_,z1,.inr ⟨a,rfl⟩⟩ s1))
   ·rw [if_neg e1]
    exact wpAny_pure (fin _ _ ⟨_,_,_,_,gi,.inr ⟨a,rfl⟩⟩ same)
theorem qfg {i n k:Nat}{v:Value}{Q:Unit->Shared->Prop}(ii:ItAt s.heap it d i n ep)(hk:k=1\/k=6\/k=7\/(k=0/\(v = .none\/∃ a,v = .int a 0)))(fin:∀ h',ItAt h' it d i n ep->Heap.SameBut it s.heap h'->Q () { s with heap:=h' }):wpAny (model prog w) A (setField (.ref it) k v) Q E s:=by
 obtain ⟨f0,f1,ok,ov,gi,c0⟩:=ii
 rcases hk with rfl | rfl | rfl | ⟨rfl,hv⟩
 ·exact wpAny_setField_rec gi (by simp) fun g1 z1 s1=>fin g1 ⟨_,_,_,_,z1,c0⟩ s1
 ·exact wpAny_setField_rec gi (by simp) fun g1 z1 s1=>fin g1 ⟨_,_,_,_,z1,c0⟩ s1
 ·exact wpAny_setField_rec gi (by simp) fun g1 z1 s1=>fin g1 ⟨_,_,_,_,z1,c0⟩ s1
 ·exact wpAny_setField_rec gi (by simp) fun g1 z1 s1=>fin g1 ⟨_,_,_,_,z1,hv⟩ s1
theorem qgY {i n k:Nat}{Q:Value->Shared->Prop}(ii:ItAt s.heap it d i n ep)(hk:k=6\/k=7)(fin:∀ v,Q v s):wpAny (model prog w) A (field (.ref it) k) Q E s:=by
 obtain ⟨f0,f1,ok,ov,gi,c0⟩:=ii
 rcases hk with rfl | rfl
 ·exact wpAny_field gi rfl (x:=ok) rfl (fin _)
 ·exact wpAny_field gi rfl (x:=ov) rfl (fin _)
theorem qc2 {a:Addr}{h1 h2 h3:Heap}(x:Heap.SameBut a h1 h2)(y:Heap.SameBut a h2 h3):Heap.SameBut a h1 h3:=⟨y.1.trans x.1,fun b hb=>(y.2 b hb).trans (x.2 b hb)⟩
theorem qkb {i n:Nat}{x y:Value}{Q:Value->Shared->Prop}(ii:ItAt s.heap it d i n ep)
  (fin:∀ h',ItAt h' it d i n ep->h'.get? s.heap.objs.size=some { cls := .type "tuple",data := .seq #[x,y] }->h'.objs.size=s.heap.objs.size + 1->(∀ b o,b≠it->s.heap.get? b=some o->h'.get? b=some o)->Q (.ref s.heap.objs.size) { s with heap:=h' }) :
  wpAny (model prog w) A (Builtin.Dict_items.pairFromOwner (.ref it) 6 x y) Q E s:=by
 unfold Builtin.Dict_items.pairFromOwner
 have li:it < s.heap.objs.size:=let ⟨_,_,_,_,e,_⟩:=ii; Heap.lt_size e
 refine wpAny_bind (wpAny_newTuple ?_)
 have i1:ItAt (s.heap.push { cls := .type "tuple",data := .seq #[x,y] }) it d i n ep:=ii.at fun o e=>Heap.get?_push_of_some _ e
 have fin':∀ h',ItAt h' it d i n ep->Heap.SameBut it (s.heap.push { cls := .type "tuple",data := .seq #[x,y] }) h'->Q (.ref s.heap.objs.size) { s with heap:=h' }:=fun h' a b =>
  fin h' a ((b.2 _ (Nat.ne_of_gt li)).trans (Heap.get?_push_size _ rfl)) (by rw [b.1,Heap.size_push]) fun c o hc e=>(b.2 c hc).trans (Heap.get?_push_of_some _ e)
 refine wpAny_bind (qmj (s:={ s with heap:=s.heap.push { cls := .type "tuple",data := .seq #[x,y] } }) i1 fun b h2 i2 s2=>?_)
 cases b with
 | false=>exact wpAny_pure (fin' h2 i2 s2)
 | true =>
  refine wpAny_bind (qgY (s:={ s with heap:=h2 }) i2 (.inl rfl) fun v1=>wpAny_bind (qgY (s:={ s with heap:=h2 }) i2 (.inr rfl) fun v2=>?_))
  refine wpAny_bind (qfg (s:={ s with heap:=h2 }) i2 (.inr (.inl rfl)) fun h3 i3 s3=>?_)
  refine wpAny_bind (qfg (s:={ s with heap:=h3 }) i3 (.inr (.inr (.inl rfl))) fun h4 i4 s4=>?_)
  refine wpAny_bind (qfg (s:={ s with heap:=h4 }) i4 (.inr (.inr (.inr ⟨rfl,.inr ⟨_,rfl⟩⟩))) fun h5 i5 s5=>?_)
  refine wpAny_bind (qfg (s:={ s with heap:=h5 }) i5 (.inl rfl) fun h6 i6 s6=>?_)
  exact wpAny_bind (wpAny_letGo (wpAny_pure (fin' h6 i6 (qc2 s2 (qc2 s3 (qc2 s4 (qc2 s5 s6)))))))
theorem qfe {Q:Option Value->Shared->Prop}(ii:ItAt s.heap it d i es.size ep)(de:DEnt s.heap d es ep)(li:i < es.size)
  (fin:∀ h',ItAt h' it d (i + 1) es.size ep->h'.get? s.heap.objs.size=some { cls := .type "tuple",data := .seq #[es[i].key,es[i].val] }->h'.objs.size=s.heap.objs.size + 1->(∀ b o,b≠it->s.heap.get? b=some o->h'.get? b=some o)->Q (some (.ref s.heap.objs.size)) { s with heap:=h' }) :
  wpAny (model prog w) A (pyNext (.ref it)) Q E s:=by
 have ti:=ii.ty
 obtain ⟨f0,f1,ok,ov,gi,c0⟩:=id ii
 obtain ⟨od,gd,xd,dd⟩:=de
 unfold pyNext
 refine wpAny_bind (wpAny_attempt (wpAny_callSpecial?_slot (name:=Str.ofString "__next__") ti F.slot_dict_itemiterator_next (wpAny_call_entry F.slot_dict_itemiterator_next ti F.entry_dict_itemiterator_next (wpAny_bind (wpAny_pure (wpAny_bind (wpAny_bind ?_)))) (F.args_dict_itemiterator_next_1 _))))
 refine wpAny_bind (wpAny_typeNameOfWhole_itemiter ti (wpAny_pure (wpAny_bind (wpAny_fieldsOf gi rfl ?_))))
 simp only [show Builtin.Dict_items.ownsTuple "dict_itemiterator" = true by decide,if_true]
 show wpAny _ _ (if (Value.ref d == Value.none)=true then _ else _) _ _ s
 rw [if_neg (show ¬ ((Value.ref d == Value.none)=true) from Bool.false_ne_true)]
 refine wpAny_bind (wpAny_pure (wpAny_bind (wpAny_dictEntries gd dd ?_)))
 rw [if_neg (by simp)]
 refine wpAny_bind (wpAny_pure (wpAny_bind (wpAny_dictEpoch gd dd ?_)))
 rw [if_neg (by simp)]
 refine wpAny_pure ?_
 simp only [show ¬ ((i:Int) < 0) from by omega,if_false,Int.toNat_natCast,Array.getElem?_eq_getElem li]
 refine wpAny_bind (wpAny_bind (wpAny_typeNameOfWhole_itemiter ti (wpAny_pure (wpAny_bind (wpAny_isOneOf_itemiter ti ?_)))))
 show wpAny _ _ (setField (.ref it) 3 (rawInt ((i:Int) + 1)) >>= _) _ _ s
 refine wpAny_bind (wpAny_setField_rec gi (by simp) fun h1 z1 s1=>?_)
 have i1:ItAt h1 it d (i + 1) es.size ep:=by
  have e:((i + 1:Nat):Int)=(i:Int) + 1:=by omega
  refine ⟨f0,f1,ok,ov,?_,c0⟩
  rw [e]; simpa [rawInt] using z1
 have t1:Shared.TypeIs { s with heap:=h1 } (.ref it) "dict_itemiterator" := ItAt.ty (s:={ s with heap:=h1 }) i1
 refine wpAny_bind (wpAny_holding (wpAny_bind (wpAny_isOneOf_itemiter t1 (wpAny_bind (wpAny_isOneOf_itemiter t1 ?_)))))
 show wpAny _ _ (Builtin.Dict_items.pairFromOwner (.ref it) 6 es[i].key es[i].val) _ _ { s with heap:=h1 }
 have z1:h1.objs.size=s.heap.objs.size:=s1.1
 refine qkb (s:={ s with heap:=h1 }) i1 fun h2 i2 T2 sz2 k2=>wpAny_pure ⟨_,rfl,wpAny_pure ?_⟩
 have F:=fin h2 i2 (z1 ▸ T2) (z1 ▸ sz2) fun b o hb e=>k2 b o hb ((s1.2 b hb).trans e)
 show Q (some (.ref h1.objs.size)) _
 rw [z1]; exact F
theorem qgX {Q:Option Value->Shared->Prop}(hh:A.handled=none)(ii:ItAt s.heap it d i es.size ep)(de:DEnt s.heap d es ep)(li:es.size≤i)(fin:∀ h',Heap.ExtBut it s.heap h'->Q none { s with heap:=h' }) :
  wpAny (model prog w) A (pyNext (.ref it)) Q E s:=by
 have ti:=ii.ty
 obtain ⟨f0,f1,ok,ov,gi,c0⟩:=id ii
 obtain ⟨od,gd,xd,dd⟩:=de
 unfold pyNext
 refine wpAny_bind (wpAny_attempt (wpAny_callSpecial?_slot (name:=Str.ofString "__next__") ti F.slot_dict_itemiterator_next (wpAny_call_entry F.slot_dict_itemiterator_next ti F.entry_dict_itemiterator_next (wpAny_bind (wpAny_pure (wpAny_bind (wpAny_bind ?_)))) (F.args_dict_itemiterator_next_1 _))))
 refine wpAny_bind (wpAny_typeNameOfWhole_itemiter ti (wpAny_pure (wpAny_bind (wpAny_fieldsOf gi rfl ?_))))
 simp only [show Builtin.Dict_items.ownsTuple "dict_itemiterator" = true by decide,if_true]
 show wpAny _ _ (if (Value.ref d == Value.none)=true then _ else _) _ _ s
 rw [if_neg (show ¬ ((Value.ref d == Value.none)=true) from Bool.false_ne_true)]
 refine wpAny_bind (wpAny_pure (wpAny_bind (wpAny_dictEntries gd dd ?_)))
 rw [if_neg (by simp)]
 refine wpAny_bind (wpAny_pure (wpAny_bind (wpAny_dictEpoch gd dd ?_)))
 rw [if_neg (by simp)]
 refine wpAny_pure ?_
 simp only [show ¬ ((i:Int) < 0) from by omega,if_false,Int.toNat_natCast,Array.getElem?_eq_none li]
 refine wpAny_bind (wpAny_bind (wpAny_typeNameOfWhole_itemiter ti (wpAny_pure ?_)))
 show wpAny _ _ (setField (.ref it) 2 .none >>= _) _ _ s
 refine wpAny_bind (wpAny_setField gi rfl (by simp) ?_)
 show wpAny _ _ (newExc (.type "StopIteration") [] >>= _) _ _ _
 refine wpAny_bind ?_
 simp only [newExc,newTuple]
 refine wpAny_bind (wpAny_newObj_type (wpAny_bind (m:=firstArgMember _ _) (wpAny_of_eq (a:=Value.none) (by first | rfl | (simp only [firstArgMember]; rfl)) (wpAny_newObj_type ?_ (by size_fits)))) (by size_fits))
 simp only [raiseNew]
 refine wpAny_bind (wpAny_handled ?_)
 rw [show A.in1.handled=none from hh]
 refine wpAny_bind (wpAny_pure (wpAny_throw ?_))
 refine wpAny_bind (wpAny_isInstance (T := "StopIteration") (b:=true) ⟨_,Heap.get?_push_size _ rfl,rfl⟩ isSubtype_stop (wpAny_pure (fin _ ?_)))
 exact ((Heap.SameBut.update ..).extBut.push _).push _
theorem qmg {elts:List Expr}{x1:_}{pos:Pos}{i n:Nat}{a:Addr}{Q:Unit->Shared->Prop}(ii:ItAt s.heap it d i n ep)(fin:∀ h',ItAt h' it d i n ep->Heap.SameBut it s.heap h'->Q () { s with heap:=h' }) :
  wpAny (model prog w) A (letOwnedTupleGo (.Tuple elts x1 pos) (.ref it) (.ref a)) Q E s:=by
 obtain ⟨f0,f1,ok,ov,gi,c0⟩:=id ii
 unfold letOwnedTupleGo
 refine wpAny_bind (wpAny_load gi ?_)
 show wpAny _ _ (if (["enumerate", "zip", "dict_itemiterator", "dict_reverseitemiterator", "odict_iterator", "itertools.zip_longest", "itertools.pairwise"].contains "dict_itemiterator" && (#[f0,f1,.ref d,.int i 0,.int n 0,.int ep 0,ok,ov]:Array Value)[0]? == some (rawInt a))=true then _ else _) Q E s
 by_cases hc:(["enumerate", "zip", "dict_itemiterator", "dict_reverseitemiterator", "odict_iterator", "itertools.zip_longest", "itertools.pairwise"].contains "dict_itemiterator" && (#[f0,f1,.ref d,.int i 0,.int n 0,.int ep 0,ok,ov]:Array Value)[0]? == some (rawInt a))=true
 ·rw [if_pos hc]
  refine wpAny_bind (wpAny_rule ?_)
  show wpAny _ _ (setField (.ref it) 0 .none) Q E s
  exact qfg ii (.inr (.inr (.inr ⟨rfl,.inl rfl⟩))) fin
 ·rw [if_neg hc]
  exact wpAny_pure (fin _ ii ⟨rfl,fun _ _=>rfl⟩)
end
section
variable {prog:Program}{w:World}{A:Around}{d r:Addr}{es:Array DictEntry}{ep:Nat}
def qmE (es:Array DictEntry)(i:Nat)(v:Value):Prop:=∃ e,es[i]?=some e/\v=e.key
def IsVal (es:Array DictEntry)(i:Nat)(v:Value):Prop:=∃ e,es[i]?=some e/\v=e.val
theorem qhR (hh:A.handled=none)(I d:Addr)(hne:d≠I)(es:Array DictEntry)(ep:Nat):Walks prog w A I [I,d] [I] es.size (qmE es) (fun i h=>h.IsKeyIter I d i es.size ep/\DEnt h d es ep) where
 sub:=by simp
 frame:=fun i h h' st k=>⟨st.1.at fun o e=>k I (by simp) o e,st.2.at fun o e=>k d (by simp) o e⟩
 item:=fun i s Q E hi st hQ=>qgS st.1 st.2 hi fun h' k' sb=>hQ _ h' s.toks ⟨_,Array.getElem?_eq_getElem hi,rfl⟩ ⟨k',st.2.at fun o e=>(sb.2 d hne).trans e⟩ fun b o hb e=>(sb.2 b (by simpa using hb)).trans e
 done:=fun s Q E st hQ=>qiT hh st.1 st.2 (Nat.le_refl _) fun h' eb=>hQ h' s.toks fun b o hb e=>eb b o (by simpa using hb) e
 self:=fun i s Q E st h=>wpAny_pyIter_keyiter st.1 h
theorem qhQ (hh:A.handled=none)(I d:Addr)(hne:d≠I)(es:Array DictEntry)(ep:Nat):Walks prog w A I [I,d] [I] es.size (IsVal es) (fun i h=>h.IsValIter I d i es.size ep/\DEnt h d es ep) where
 sub:=by simp
 frame:=fun i h h' st k=>⟨st.1.at fun o e=>k I (by simp) o e,st.2.at fun o e=>k d (by simp) o e⟩
 item:=fun i s Q E hi st hQ=>qjL st.1 st.2 hi fun h' k' sb=>hQ _ h' s.toks ⟨_,Array.getElem?_eq_getElem hi,rfl⟩ ⟨k',st.2.at fun o e=>(sb.2 d hne).trans e⟩ fun b o hb e=>(sb.2 b (by simpa using hb)).trans e
 done:=fun s Q E st hQ=>qlo hh st.1 st.2 (Nat.le_refl _) fun h' eb=>hQ h' s.toks fun b o hb e=>eb b o (by simpa using hb) e
 self:=fun i s Q E st h=>wpAny_pyIter_valiter st.1 h
theorem DEnt.lt {h:Heap}(x:DEnt h d es ep):d < h.objs.size:=let ⟨_,e,_⟩:=x; Heap.lt_size e
theorem qgi (lo:(d == sysModules)=false):KdlSrc prog w "dict" d d es.size (qmE es) (fun h=>DEnt h d es ep) where
 type:=fun _ x=>x.ty
 there:=fun _ x=>⟨x.lt,x.lt⟩
 keep:=fun _ _ x k=>x.at fun o e=>k d (.inl rfl) o e
 notList:=by decide
 notTuple:=by decide
 hint:=fun _ _ _ _ x q=>kdl_hint_dict x.ty q
 iter:=fun _ _ hh x=>⟨_,_,(fun _ _ q=>qgT lo x q),qhR hh _ d (Nat.ne_of_lt x.lt) es ep,⟨⟨_,Heap.get?_push_size _ rfl,rfl,rfl⟩,x.at fun o e=>Heap.get?_push_of_some _ e⟩⟩
theorem qf8 {T:String}{n:Nat}{P:Nat->Value->Prop}{OK:Heap->Prop}{E:Value->Shared->Prop}{s:Shared}{Q:List Value->Shared->Prop}(K:KdlSrc prog w T r d n P OK)(hh:A.handled=none)(ok:OK s.heap)(few:n≤sizeLine)
  (fin:∀ h' tk (vs:List Value),(∀ b o,s.heap.get? b=some o->h'.get? b=some o)->vs.length=n->(∀ j v,vs[j]?=some v->P j v)->Q vs { s with heap:=h',toks:=tk }):wpAny (model prog w) A (collect (.ref r)) Q E s:=by
 unfold collect
 refine wpAny_bind (wpAny_runValue (codeAny_builtin PySem.F.entry_proto_collect ?_))
 rw [Around.under_plainId PySem.F.plain_proto_collect _]
 show wpAny _ A.in1 (newList [] >>= fun l=>again (.builtin "list.__iadd__" ⟨[l,.ref r],[]⟩)) _ _ s
 refine wpAny_bind (wpAny_newObj_type (wpAny_pure ⟨plainId_quiet PySem.F.plain_list_iadd _,codeAny_builtin PySem.F.entry_list_iadd ?_⟩))
 rw [Around.under_plainId PySem.F.plain_list_iadd _]
 have th:=K.there _ ok
 show wpAny _ A.in1 (Builtin.List.listExtendWith (.ref s.heap.objs.size) (.ref r) (.ref s.heap.objs.size)) _ _ _
 refine kdl_extend (A:=A) (R:=fun (x:Result) s'=>match x with
  | .ok (.ret v)=>wpAny (model prog w) A (match v with
   | .ref a=>do
    let o <- load a
    match o.data with
    | .seq xs _=>pure xs.toList
    | _=>unsupported "internal:collect"
   | _=>unsupported "internal:collect") Q E s'
  | .ok _=>False
  | .error e=>E e s') (s:={ s with heap:=s.heap.push { cls := .type "list",data := .seq #[] } }) K hh (K.keep _ _ ok fun b _ o e=>Heap.get?_push_of_some _ e) s.heap.objs.size (Nat.ne_of_gt th.1) (Nat.ne_of_gt th.2) _ 0 (Heap.get?_push_size _ rfl) (fun h' tk acc c k hS it=>?_) few
 show wpAny _ A (load s.heap.objs.size >>= _) _ _ { s with heap:=h',toks:=tk }
 refine wpAny_bind (wpAny_load hS (wpAny_pure ?_))
 exact fin h' tk acc.toList (fun b o e=>k b o (Nat.ne_of_lt (Heap.lt_size e)) (Heap.get?_push_of_some _ e)) (by rw [Array.length_toList]; exact it.1) fun j v e=>it.2 j v (by rw [<- Array.getElem?_toList]; exact e)
end
end DI
namespace L2
open PySem PySem.W PySem.Spec PyProof.Rows DI
def EntT (H:Hp)(kvs:List (List Key × V))(es:Array DictEntry):Prop :=
 Paired (fun (p:List Key × V) (e:DictEntry)=>∃ b,e.key = .ref b/\H b=some (.tup (p.1.map kV))/\RelV p.2 e.val) kvs es.toList
theorem EntT.size {H:Hp}{kvs:List (List Key × V)}{es:Array DictEntry}(h:EntT H kvs es):es.size=kvs.length:=by have:=Paired.length h; simpa using this.symm
theorem EntT.at {H:Hp}{kvs:List (List Key × V)}{es:Array DictEntry}(h:EntT H kvs es){i:Nat}{e:DictEntry}(q:es[i]?=some e):∃ kv b,kvs[i]?=some kv/\e.key = .ref b/\H b=some (.tup (kv.1.map kV))/\RelV kv.2 e.val:=by
 have:∀ {l:List (List Key × V)} {m:List DictEntry},Paired (fun (p:List Key × V) (e:DictEntry)=>∃ b,e.key = .ref b/\H b=some (.tup (p.1.map kV))/\RelV p.2 e.val) l m->∀ {i:Nat} {e},m[i]?=some e->∃ kv b,l[i]?=some kv/\e.key = .ref b/\H b=some (.tup (kv.1.map kV))/\RelV kv.2 e.val:=by
  intro l m r
  induction r with
  | nil=>intro i e q; simp at q
  | @cons p q ps qs hq t ih =>
   intro i e z
   cases i with
   | zero=>simp at z; subst z; obtain ⟨b,h1,h2,h3⟩:=hq; exact ⟨p,b,rfl,h1,h2,h3⟩
   | succ i=>simpa using ih (by simpa using z)
 exact this h (by rw [Array.getElem?_toList]; exact q)
theorem Inv.entT {X:Cx}{pins:List (Addr × Obj)}{σ:St}{H:Hp}{s:Shared}{d:Addr}{kvs:List (List Key × V)}(I:Inv X pins σ H s)(h:Rd H d (.dT kvs)):(d == sysModules)=false/\kvs.length≤sizeLine/\(kvs.map (·.1)).Nodup/\∃ es ep,DEnt s.heap d es ep/\EntT H kvs es:=by
 obtain ⟨z,y,xs,r,o,es,ep,h1,h2,h3,h4,h5⟩:=(show qaR X.prog X.w H s.heap d (.dT kvs) from qlB I.hok h)
 have ek:kvs.map (·.1)=xs.map (·.1):=by
  clear h4 h5 z h
  induction r with
  | nil=>rfl
  | @cons p q ps qs hq t ih=>rw [List.map_cons,List.map_cons,hq.1,ih]
 refine ⟨y,z,by rw [ek]; exact h5,es,ep,⟨o,h1,h2,h3⟩,?_⟩
 unfold EntT
 rw [h4]
 clear h4 h5 ek z h
 induction r with
 | nil=>exact .nil
 | @cons p q ps qs hq t ih=>exact .cons ⟨q.2.1,rfl,hq.2.1,hq.2.2⟩ ih
structure Prd (H H':Hp)(kvs:List (List Key × V))(as:List Addr):Prop where
 same:Same H H'
 nodup:as.Nodup
 new:∀ a∈as,H a=none
 at_:∀ (j:Nat) (a:Addr),as[j]?=some a->∃ (kv:List Key × V) (b:Addr),kvs[j]?=some kv/\H b=some (.tup (kv.1.map kV))/\H' a=some (.tup [.ref b,kv.2])
section
variable {X:Cx}{pins:List (Addr × Obj)}{σ:St}{A:Around}{R:Result->Shared->Prop}{it S d:Addr}{es:Array DictEntry}{ep:Nat}{kvs:List (List Key × V)}{H0:Hp}{res:Value}
theorem qhy (hh:A.handled=none)(e0:EntT H0 kvs es)(few:es.size≤sizeLine)(hS:S≠it)(hd:d≠S)(hd2:d≠it)
  (fin:∀ (s':Shared) H' as (acc:Array Value) c,Inv X pins σ H' s'->Prd H0 H' kvs as->as.length=kvs.length->acc.toList=as.map Value.ref->s'.heap.get? S=some { cls := .type "list",dict:=none,data := .seq acc c,slots:=#[] }->H' S=none->R (.ok (.ret res)) s') :
  ∀ (k i:Nat) (s:Shared) (H:Hp) (as:List Addr) (acc:Array Value) (c:Nat),es.size - i=k->i≤es.size->Inv X pins σ H s->FpOk X pins H it->FpOk X pins H S->ItAt s.heap it d i es.size ep->DEnt s.heap d es ep ->
   Prd H0 H kvs as->as.length=i->acc.toList=as.map Value.ref->s.heap.get? S=some { cls := .type "list",dict:=none,data := .seq acc c,slots:=#[] } ->
   codeAny (model X.prog X.w) A (.builtin "list.extend.loop" ⟨[.ref S,.ref it,res],[]⟩) R s:=by
 intro k
 induction k with
 | zero =>
  intro i s H as acc c hk hi I fi fS ii de pr la ea gS
  refine codeAny_builtin PySem.F.entry_extend_loop ?_
  rw [Around.under_plainId PySem.F.plain_extend_loop _]
  show wpAny _ A.in1 (pyNext (.ref it) >>= _) _ _ s
  refine wpAny_bind (qgX hh ii de (by omega) fun h' eb=>wpAny_pure ?_)
  have I2:Inv X pins σ H { s with heap:=h' }:=I.turnedL (t':=s.toks) (fp:=[it]) (fun b hb=>by rw [List.mem_singleton.mp hb]; exact fi) fun b o hb e=>eb b o (by simpa using hb) e
  exact fin _ H as acc c I2 pr (by rw [la,<- e0.size]; omega) ea (eb S _ hS gS) fS.1
 | succ k ih =>
  intro i s H as acc c hk hi I fi fS ii de pr la ea gS
  have li:i < es.size:=by omega
  refine codeAny_builtin PySem.F.entry_extend_loop ?_
  rw [Around.under_plainId PySem.F.plain_extend_loop _]
  show wpAny _ A.in1 (pyNext (.ref it) >>= _) _ _ s
  refine wpAny_bind (qfe ii de li fun h' i2 T2 sz2 k2=>?_)
  obtain ⟨kv,b,q1,q2,q3,q4⟩:=e0.at (Array.getElem?_eq_getElem li)
  have hnw:H s.heap.objs.size=none:=I.hok.fresh (Nat.le_refl _)
  have sz:acc.size=i:=by rw [<- Array.length_toList,ea,List.length_map,la]
  have gS':=k2 S _ hS gS
  have nS:s.heap.objs.size≠S:=Nat.ne_of_gt (Heap.lt_size gS)
  have nit:s.heap.objs.size≠it:=let ⟨_,_,_,_,e,_⟩:=ii; Nat.ne_of_gt (Heap.lt_size e)
  show wpAny _ A.in1 (updateSeq S (·.push (.ref s.heap.objs.size)) >>= _) _ _ { s with heap:=h' }
  refine wpAny_bind (wpAny_updateSeq gS' rfl (wpAny_pure ⟨plainId_quiet PySem.F.plain_extend_loop _,?_⟩) (by rw [sz]; omega) (by show (acc.push _).size≤sizeLine + 1; rw [Array.size_push,sz]; omega))
  have oth:∀ c o,c≠S->h'.get? c=some o->(h'.update S (Obj.mapSeq (·.push (Value.ref s.heap.objs.size)))).get? c=some o:=fun c o hc e=>(Heap.get?_update_other _ _ (Ne.symm hc)).trans e
  have I2:Inv X pins σ (upd H s.heap.objs.size (.tup [.ref b,kv.2])) { s with heap:=h'.update S (Obj.mapSeq (·.push (Value.ref s.heap.objs.size))) }:=by
   refine I.turnedNew (t':=s.toks) (fp:=[it,S]) (fun b hb=>?_) (fun b o hb e=>?_) (Nat.le_refl _) ⟨by show 2≤_; decide,[es[i].key,es[i].val],.cons (by rw [q2]; rfl) (.cons q4 .nil),_,oth _ _ nS T2,rfl,_,rfl,rfl⟩
   ·rcases List.mem_cons.mp hb with rfl | hb
    ·exact fi
    ·rw [List.mem_singleton.mp hb]; exact fS
   ·simp only [List.mem_cons,List.not_mem_nil,or_false,not_or] at hb
    exact oth b o hb.2 (k2 b o hb.1 e)
  have F:∀ {b:Addr},b≠s.heap.objs.size->FpOk X pins H b->FpOk X pins (upd H s.heap.objs.size (.tup [.ref b,kv.2])) b:=fun hb f=>⟨by rw [uE hb]; exact f.1,f.2⟩
  have nn:H0 s.heap.objs.size=none:=by
   cases z:H0 s.heap.objs.size with
   | none=>rfl
   | some o=>have:=pr.same _ _ z; rw [hnw] at this; cases this
  refine ih (i + 1) _ (upd H s.heap.objs.size (.tup [.ref b,kv.2])) (as ++ [s.heap.objs.size]) (acc.push (.ref s.heap.objs.size)) _ (by omega) li I2 ?_ ?_ (i2.at fun o e=>oth it o (Ne.symm hS) e) (de.at fun o e=>oth d o hd (k2 d o hd2 e)) ?_ (by simp [la]) (by simp [ea]) (Heap.get?_update_self _ gS' rfl)
  ·exact ⟨by rw [uE (Ne.symm nit)]; exact fi.1,fi.2⟩
  ·exact ⟨by rw [uE (Ne.symm nS)]; exact fS.1,fS.2⟩
  ·refine ⟨fun c o e=>?_,?_,?_,?_⟩
   ·rw [uE (qab (pr.same c o e) hnw)]; exact pr.same c o e
   ·refine List.nodup_append.mpr ⟨pr.nodup,by simp,fun x hx y hy z=>?_⟩
    rw [List.mem_singleton] at hy
    subst hy z
    obtain ⟨j,hj⟩:=List.getElem?_of_mem hx
    obtain ⟨_,_,_,_,w⟩:=pr.at_ j _ hj
    rw [hnw] at w; cases w
   ·intro a ha
    rcases List.mem_append.mp ha with ha | ha
    ·exact pr.new a ha
    ·rw [List.mem_singleton.mp ha]; exact nn
   ·intro j a ja
    rcases Nat.lt_or_ge j as.length with u | u
    ·rw [List.getElem?_append_left u] at ja
     obtain ⟨kv',b',w1,w2,w3⟩:=pr.at_ j a ja
     exact ⟨kv',b',w1,w2,by rw [uE (qab w3 hnw)]; exact w3⟩
    ·rw [List.getElem?_append_right u] at ja
     have hj:j=i:=by
      rcases Nat.eq_or_lt_of_le u with e | e
      ·omega
      ·rw [List.getElem?_eq_none (by simp; omega)] at ja; cases ja
     subst hj
     simp [la] at ja
     subst ja
     exact ⟨kv,b,q1,q3,uS⟩
end
end L2
namespace Srt
open PySem PySem.W PySem.Spec PyProof.Rows L2
def lexI:List Int->List Int->Bool
 | [],[]=>false
 | [],_ :: _=>true
 | _ :: _,[]=>false
 | a :: as,b :: bs=>if a=b then lexI as bs else decide (a < b)
theorem qdn:∀ a b,lexI a b=true->lexI b a=false
 | [],[],h=>by simp [lexI] at h
 | [],_ :: _,_=>rfl
 | _ :: _,[],h=>by simp [lexI] at h
 | a :: as,b :: bs,h=>by
  unfold lexI at h ⊢
  by_cases e:a=b
  ·rw [if_pos e] at h; rw [if_pos e.symm]; exact qdn as bs h
  ·rw [if_neg e] at h; rw [if_neg (Ne.symm e)]
   simp at h ⊢; omega
theorem qf0:∀ a b c,lexI b a=false->lexI c b=false->lexI c a=false
 | [],[],c,_,h=>h
 | [],b :: bs,[],_,_=>rfl
 | [],b :: bs,c :: cs,_,_=>rfl
 | a :: as,[],c,h,_=>by simp [lexI] at h
 | a :: as,b :: bs,[],_,h=>by simp [lexI] at h
 | a :: as,b :: bs,c :: cs,h1,h2=>by
  unfold lexI at h1 h2 ⊢
  by_cases e1:b=a <;> by_cases e2:c=b
  ·rw [if_pos e1] at h1; rw [if_pos e2] at h2; rw [if_pos (e2.trans e1)]; exact qf0 as bs cs h1 h2
  ·rw [if_pos e1] at h1; rw [if_neg e2] at h2; rw [if_neg (fun z=>e2 (z.trans e1.symm))]; rw [<- e1]; exact h2
  ·rw [if_neg e1] at h1; rw [if_pos e2] at h2; rw [if_neg (fun z=>e1 (e2.symm.trans z))]; rw [e2]; exact h1
  ·rw [if_neg e1] at h1; rw [if_neg e2] at h2
   simp at h1 h2
   rw [if_neg (by omega)]; simp; omega
theorem qgO:∀ a b,lexI a b=false->lexI b a=false->a=b
 | [],[],_,_=>rfl
 | [],_ :: _,h,_=>by simp [lexI] at h
 | _ :: _,[],_,h=>by simp [lexI] at h
 | a :: as,b :: bs,h1,h2=>by
  unfold lexI at h1 h2
  by_cases e:a=b
  ·subst e; rw [if_pos rfl] at h1 h2; rw [qgO as bs h1 h2]
  ·rw [if_neg e] at h1; rw [if_neg (Ne.symm e)] at h2
   simp at h1 h2; omega
theorem ordI (ks:Nat->List Int):Ord fun i j=>lexI (ks i) (ks j):=⟨fun i j h=>qdn _ _ h,fun i j k h1 h2=>qf0 _ _ _ h1 h2⟩
def TupI (h:Heap)(b:Addr)(ks:List Int):Prop:=∃ o items n,h.get? b=some o/\o.cls = .type "tuple" /\ o.data = .seq items n/\IntsAre items.toList ks
theorem TupI.at {h h':Heap}{b:Addr}{ks:List Int}(x:TupI h b ks)(k:∀ o,h.get? b=some o->h'.get? b=some o):TupI h' b ks:=let ⟨o,i,n,e,r⟩:=x; ⟨o,i,n,k o e,r⟩
theorem TupI.isTuple {h:Heap}{b:Addr}{ks:List Int}(x:TupI h b ks):∃ items:Array Value,h.IsTuple b items/\IntsAre items.toList ks:=let ⟨o,i,n,e,c,d,r⟩:=x; ⟨i,⟨o,e,c,n,d⟩,r⟩
section
variable {prog:Program}{w:World}{A:Around}{E:Value->Shared->Prop}{s:Shared}
theorem qgN {Q:Bool->Shared->Prop}:∀ {xs ys:List Value} {as bs:List Int} (i:Nat),IntsAre xs as->IntsAre ys bs->Q (lexI as bs) s->KatLex prog w A true (decide (xs.length < ys.length)) Q (xs.zip ys) i s
 | _,_,_,_,i,.nil,.nil,h=>h
 | _,_,_,_,i,.nil,.cons _ _ _,h=>by simpa [lexI,KatLex] using h
 | _,_,_,_,i,.cons _ _ _,.nil,h=>by simpa [lexI,KatLex] using h
 | _,_,_,_,i,.cons (vs:=xs) (ns:=as) a t ra,.cons (vs:=ys) (ns:=bs) b u rb,h=>by
  rw [List.zip_cons_cons]
  refine kat_cons ((SeqAt.EqAt.int_int a t b u) prog w _ _ (kat_go (fun e=>kat_yes ?_) fun e=>kat_no ?_))
  ·have e':a=b:=by simpa using e
   subst e'
   have:=qgN (Q:=Q) (xs:=xs) (ys:=ys) (as:=as) (bs:=bs) (i + 1) ra rb (by unfold lexI at h; rw [if_pos rfl] at h; exact h)
   simpa using this
  ·have e':a≠b:=by simpa using e
   have h':Q (decide (a < b)) s:=by unfold lexI at h; rw [if_neg e'] at h; exact h
   cases i with
   | zero=>exact oneLt_int h'
   | succ i=>exact kat_one _ _ (lt_int h')
theorem qiQ {x y:Addr}{as bs:List Int}{Q:Bool->Shared->Prop}(hx:TupI s.heap x as)(hy:TupI s.heap y bs)(h:Q (lexI as bs) s):wpAny (model prog w) A (keyLt' (tuples' true) (.ref x) (.ref y)) Q E s:=by
 obtain ⟨ox,xs,n,e1,c1,d1,r1⟩:=hx
 obtain ⟨oy,ys,m,e2,c2,d2,r2⟩:=hy
 refine kat_lt e1 d1 e2 d2 ?_
 have:=qgN (prog:=prog) (w:=w) (A:=A) 0 r1 r2 h
 simpa using this
theorem qiP {as bs:List Int}{i:Nat}(h1:min as.length bs.length≤i)(h2:i≤min as.length bs.length):lexI (as.drop i) (bs.drop i)=decide (as.length < bs.length):=by
 rcases Nat.lt_or_ge i as.length with a1 | a1
 ·rw [List.drop_of_length_le (l:=bs) (by omega),List.drop_eq_getElem_cons a1]
  show false=_
  simp; omega
 ·rw [List.drop_of_length_le a1]
  rcases Nat.lt_or_ge i bs.length with b1 | b1
  ·rw [List.drop_eq_getElem_cons b1]
   show true=_
   simp; omega
  ·rw [List.drop_of_length_le b1]
   show false=_
   simp; omega
open PySem.SeqAt in
theorem qlC {x y:Addr}{as bs:List Int}(hx:TupI s.heap x as)(hy:TupI s.heap y bs)(hu:A.units < cLine):qd1 A s (.ref x) (.ref y) (lexI as bs):=by
 obtain ⟨xs,t1,r1⟩:=hx.isTuple
 obtain ⟨ys,t2,r2⟩:=hy.isTuple
 have l1:=IntsAre.length r1
 have l2:=IntsAre.length r2
 have lx:xs.size=as.length:=by simpa using l1
 have ly:ys.size=bs.length:=by simpa using l2
 have atI:∀ {vs:List Value} {ns:List Int},IntsAre vs ns->∀ {j:Nat} (h1:j < vs.length) (h2:j < ns.length),∃ t,vs[j] = .int ns[j] t:=by
  intro vs ns r
  induction r with
  | nil=>intro j h1; simp at h1
  | cons n t q ih =>
   intro j h1 h2
   cases j with
   | zero=>exact ⟨t,rfl⟩
   | succ j=>simpa using ih (by simpa using h1) (by simpa using h2)
 have key:=qd1.tuples (e:=fun i=>as[i]? == bs[i]?) (f:=fun i=>decide (as.getD i 0 < bs.getD i 0)) (res:=fun i=>if i < min as.length bs.length then lexI (as.drop i) (bs.drop i) else decide (as.length < bs.length)) t1 t2 hu (fun i hi e=>?_) (fun i hi e=>?_) (fun i hi=>?_) (fun j h1 h2=>?_) (fun j h1 h2 e=>?_)
 ·by_cases z:0 < min as.length bs.length
  ·rw [if_pos z] at key; simpa using key
  ·rw [if_neg z,<- qiP (as:=as) (bs:=bs) (i:=0) (by omega) (by omega)] at key; simpa using key
 ·have a1:i < as.length:=by omega
  have b1:i < bs.length:=by omega
  have e':as[i]=bs[i]:=by simpa [a1,b1] using e
  have h1:lexI (as.drop i) (bs.drop i)=lexI (as.drop (i + 1)) (bs.drop (i + 1)):=by
   rw [List.drop_eq_getElem_cons a1,List.drop_eq_getElem_cons b1]
   conv=>lhs; unfold lexI
   rw [if_pos e']
  rw [if_pos (by omega),h1]
  by_cases z:i + 1 < min as.length bs.length
  ·rw [if_pos z]
  ·rw [if_neg z,qiP (by omega) (by omega)]
 ·have a1:i < as.length:=by omega
  have b1:i < bs.length:=by omega
  have e':as[i]≠bs[i]:=by simpa [a1,b1] using e
  rw [if_pos (by omega),List.drop_eq_getElem_cons a1,List.drop_eq_getElem_cons b1]
  unfold lexI
  rw [if_neg e']
  simp [a1,b1]
 ·rw [if_neg (by omega),lx,ly]
 ·have a1:j < as.length:=by omega
  have b1:j < bs.length:=by omega
  obtain ⟨t,q1⟩:=atI r1 (j:=j) (by simpa using h1) a1
  obtain ⟨u,q2⟩:=atI r2 (j:=j) (by simpa using h2) b1
  have q1':xs[j] = .int as[j] t:=by simpa using q1
  have q2':ys[j] = .int bs[j] u:=by simpa using q2
  rw [q1',q2']
  have:=EqAt.int_int (A:=A.in1) (s:=s) as[j] t bs[j] u
  simpa [a1,b1] using this
 ·have a1:j < as.length:=by omega
  have b1:j < bs.length:=by omega
  obtain ⟨t,q1⟩:=atI r1 (j:=j) (by simpa using h1) a1
  obtain ⟨u,q2⟩:=atI r2 (j:=j) (by simpa using h2) b1
  have q1':xs[j] = .int as[j] t:=by simpa using q1
  have q2':ys[j] = .int bs[j] u:=by simpa using q2
  rw [q1',q2']
  intro prog w E Q h
  have h':Q (.bool (decide (as[j] < bs[j]))) s:=by simpa [a1,b1] using h
  exact lt_int h'
theorem qgU {P:Program}{w:World}{h:Heap}{b:Addr}{ks:List Int}(x:TupI h b ks):IsTupleKey (qau P w) h (ks.map Sum.inl) b:=by
 obtain ⟨o,items,n,e,c,d,r⟩:=x
 refine ⟨o,items,n,e,c,d,?_⟩
 clear e d
 generalize items.toList=l at r
 induction r with
 | nil=>exact .nil
 | cons n t q ih=>exact .cons (qhx (k:=Sum.inl n) ⟨t,rfl⟩) ih
theorem qhv {x y kx ky:Addr}{vx vy:Value}{ox oy:Obj}{n m:Nat}{as bs:List Int}{Q:Bool->Shared->Prop}(gx:s.heap.get? x=some ox)(dx:ox.data = .seq #[.ref kx,vx] n)(gy:s.heap.get? y=some oy)(dy:oy.data = .seq #[.ref ky,vy] m)
  (hx:TupI s.heap kx as) (hy:TupI s.heap ky bs) (ne:as≠bs) (hu:A.units < cLine) (h:Q (lexI as bs) s):wpAny (model prog w) A (keyLt' (tuples' false) (.ref x) (.ref y)) Q E s:=by
 refine kat_lt gx dx gy dy ?_
 show KatLex prog w A false _ Q ((.ref kx,.ref ky) :: _) 0 s
 refine kat_cons (wpAny_eqBool_tuple (knd:=qau prog w) hu (qgU hx) (qgU hy) ?_)
 rw [decide_eq_false (fun e=>ne ((List.map_inj_right (fun a b e=>Sum.inl.inj e)).mp e))]
 exact kat_no (kat_one _ _ (qlC hx hy hu prog w _ _ h))
end
end Srt
namespace L2
open PySem PySem.W PySem.Spec PyProof.Rows DI Srt
theorem qdi {α β:Type}{F:α->β->Prop}:∀ {xs:List α} {ys:List β},xs.length=ys.length->(∀ (j:Nat) x y,xs[j]?=some x->ys[j]?=some y->F x y)->Paired F xs ys
 | [],[],_,_ => .nil
 | x :: xs,y :: ys,hl,h => .cons (h 0 x y rfl rfl) (qdi (by simpa using hl) fun j a b p q=>h (j + 1) a b (by simpa using p) (by simpa using q))
 | [],_ :: _,hl,_=>by simp at hl
 | _ :: _,[],hl,_=>by simp at hl
theorem qah {α β:Type}{F:α->β->Prop}{xs:List α}{ys:List β}(h:Paired F xs ys):∀ {j:Nat} {x:α},xs[j]?=some x->∃ y,ys[j]?=some y/\F x y:=by
 induction h with
 | nil=>intro j x e; simp at e
 | @cons a b as bs r t ih =>
  intro j x e
  cases j with
  | zero=>simp at e; subst e; exact ⟨b,rfl,r⟩
  | succ j=>simpa using ih (by simpa using e)
theorem qdh {α β:Type}{F:α->β->Prop}{xs:List α}{ys:List β}(h:Paired F xs ys){j:Nat}{x:α}{y:β}(e1:xs[j]?=some x)(e2:ys[j]?=some y):F x y:=by
 obtain ⟨z,e,r⟩:=qah h e1
 rw [e2] at e; cases e; exact r
abbrev qa4 (H:Hp)(bs:List Addr)(ks:List (List Int)):Prop:=Paired (fun b k=>H b=some (.tup (iv k))) bs ks
theorem Inv.tupI {X:Cx}{pins:List (Addr × Obj)}{σ:St}{H:Hp}{s:Shared}{b:Addr}{k:List Int}(I:Inv X pins σ H s)(h:H b=some (.tup (iv k))):TupI s.heap b k:=by
 obtain ⟨z,its,r,o,e,c,n,d,_⟩:=(show qaR X.prog X.w H s.heap b (.tup (iv k)) from I.hok b _ h)
 exact ⟨o,its.toArray,n,e,c,d,by simpa using intsAre_of r⟩
theorem qk5 {α:Type}{n:Nat}{p:Array Nat}(hp:Of n p){ks:List α}(hk:ks.length=n)(d:α):(p.toList.map fun i=>ks.getD i d).Perm ks:=by
 have h1:=(Array.perm_iff_toList_perm.mp hp).map fun i=>ks.getD i d
 have h2:((List.toArray (List.range n)).toList.map fun i=>ks.getD i d)=ks:=by
  show (List.range n).map _=ks
  refine List.ext_getElem (by simp [hk]) fun i a b=>?_
  simp at a
  simp [hk ▸ a]
 rw [h2] at h1; exact h1
theorem qc6 {c:Nat->Nat->Bool}{n:Nat}{p:Array Nat}(hp:Of n p)(u:Up c p n):p.toList.Pairwise fun i j=>c j i=false:=by
 rw [List.pairwise_iff_getElem]
 intro i j hi hj hij
 have hs:=hp.size
 have:=u i j (Nat.le_of_lt hij) (by rw [<- hs]; simpa using hj)
 have e1:at' p i=p.toList[i]:=by unfold at'; simp at hi; simp [hi]
 have e2:at' p j=p.toList[j]:=by unfold at'; simp at hj; simp [hj]
 rw [e1,e2] at this; exact this
theorem qjH {prog:Program}{w:World}{A:Around}{s:Shared}{bs:List Addr}{ks:List (List Int)}(hl:bs.length=ks.length)(h2:2≤bs.length)(ht:∀ (j:Nat) b k,bs[j]?=some b->ks[j]?=some k->TupI s.heap b k/\k≠[]) :
  Asks prog w A (bs.map Value.ref) (fun i j=>lexI (ks.getD i []) (ks.getD j [])) (tuples' true) s where
 kind:=fun E Q h=>by
  obtain ⟨fs,hf,hi,hn⟩:∃ fs:List Value,KatTups s.heap (bs.map Value.ref) fs/\(∀ v∈fs,∃ n t,v = .int n t)/\fs.length=bs.length:=by
   clear h2 h
   induction bs generalizing ks with
   | nil=>exact ⟨[],.nil,(fun v hv=>nomatch hv),rfl⟩
   | cons b bs ih =>
    cases ks with
    | nil=>simp at hl
    | cons k ks =>
     obtain ⟨fs,h1,h2,h3⟩:=ih (ks:=ks) (by simpa using hl) fun j b' k' e1 e2=>ht (j + 1) b' k' (by simpa using e1) (by simpa using e2)
     obtain ⟨⟨o,items,n,e,c,d,r⟩,ne⟩:=ht 0 b k rfl rfl
     obtain ⟨x,xs,rfl⟩:∃ x xs,k=x :: xs:=by cases k with
      | nil=>exact absurd rfl ne
      | cons x xs=>exact ⟨x,xs,rfl⟩
     generalize hit:items.toList=l at r
     cases r with
     | cons n' t q =>
      refine ⟨.int x t :: fs,.cons e c d ?_ h1,fun v hv=>?_,by simp [h3]⟩
      ·rw [<- Array.getElem?_toList,hit]; rfl
      ·rcases List.mem_cons.mp hv with rfl | hv
       ·exact ⟨_,_,rfl⟩
       ·exact h2 v hv
  refine kat_kind (T := .type "int") hf (by omega) (fun v hv=>?_) (by decide) h
  obtain ⟨n,t,rfl⟩:=hi v hv
  exact .now
 less:=fun i j ⟨hi,hj,hne⟩ Q h=>by
  rw [List.length_map] at hi hj
  have g1:(bs.map Value.ref).getD i Value.none = .ref bs[i]:=by simp [hi]
  have g2:(bs.map Value.ref).getD j Value.none = .ref bs[j]:=by simp [hj]
  have k1:ks.getD i []=ks[i]'(by omega):=by simp [hl ▸ hi]
  have k2:ks.getD j []=ks[j]'(by omega):=by simp [hl ▸ hj]
  rw [g1,g2]
  rw [k1,k2] at h
  exact qiQ (ht i _ _ (by simp [hi]) (by simp [hl ▸ hi])).1 (ht j _ _ (by simp [hj]) (by simp [hl ▸ hj])).1 h
def qcY (ms:List (List Int)):Prop:=ms.Pairwise fun a b=>lexI b a=false
def qjY:List V->Hp->VK->Prop:=fun xs H Q=>∃ (d:Addr) (kvs:List (List Key × V)) (ks:List (List Int)),xs=[.ref d]/\Rd H d (.dT kvs)/\kvs.map (·.1)=ks.map (fun k=>k.map Sum.inl)/\(∀ k∈ks,k≠[])/\ks.length < 65536 /\
 ∀ (q:Addr) (bs:List Addr) (ms:List (List Int)),H q=none->ms.Perm ks->qcY ms->qa4 H bs ms->Q (.ref q) (upd H q (.lst (bs.map V.ref)))
section
variable {X:Cx}
theorem qcp {H:Hp}{b:Addr}{k:List Int}(h:H b=some (.tup ((k.map Sum.inl).map kV))):H b=some (.tup (iv k)):=by
 rw [h,List.map_map]; rfl
theorem qb9:∀ (bs:List Addr),Vals (bs.map V.ref) (bs.map Value.ref)
 | [] => .nil
 | _ :: bs => .cons rfl (qb9 bs)
theorem qjN {H:Hp}{bs:List Addr}{ks:List (List Int)}(h:qa4 H bs ks){n:Nat}{p:Array Nat}(hp:Of n p)(hn:ks.length=n):qa4 H (p.toList.map fun i=>bs.getD i 0) (p.toList.map fun i=>ks.getD i []):=by
 refine qdi (by simp) fun j x y e1 e2=>?_
 have hl:=Paired.length h
 rw [List.getElem?_map,Option.map_eq_some_iff] at e1 e2
 obtain ⟨i,hi,rfl⟩:=e1
 obtain ⟨i',hi',rfl⟩:=e2
 rw [hi] at hi'; cases hi'
 have lt:i < n:=by
  have:=(Array.perm_iff_toList_perm.mp hp).mem_iff.mp (List.mem_of_getElem? hi)
  exact List.mem_range.mp this
 have l1:i < bs.length:=by omega
 have l2:i < ks.length:=by omega
 exact qdh h (x:=bs.getD i 0) (y:=ks.getD i []) (j:=i) (by simp [l1]) (by simp [l2])
theorem qfn (hc:X.calm=true):qb8 X (.builtin "sorted") qjY:=by
 intro pins s σ H xs us Q I r h
 obtain ⟨d,kvs,ks,rfl,hd,ek,hne,few,q⟩:=h
 obtain ⟨u,rfl,ru⟩:=vals1 r
 obtain rfl:u=Value.ref d:=ru
 obtain ⟨lo,z,nd,es,ep,de,en⟩:=I.entT hd
 have hkl:kvs.length=ks.length:=by have:=congrArg List.length ek; simpa using this
 have hes:=en.size
 refine qeO (qf8 (qgi lo) (I.ok.hd hc) de (by omega) fun h' tk vs kp lv pv=>?_)
 obtain ⟨bs,rfl,tb⟩:∃ bs:List Addr,vs=bs.map Value.ref/\qa4 H bs ks:=by
  have:∀ (j:Nat) v,vs[j]?=some v->∃ b k,v = .ref b/\ks[j]?=some k/\H b=some (.tup (iv k)):=fun j v e=>by
   obtain ⟨e',he,rfl⟩:=pv j v e
   obtain ⟨kv,b,w1,w2,w3,_⟩:=en.at he
   have hk:(kvs.map (·.1))[j]?=some kv.1:=by rw [List.getElem?_map,w1]; rfl
   rw [ek,List.getElem?_map,Option.map_eq_some_iff] at hk
   obtain ⟨k,hk1,hk2⟩:=hk
   exact ⟨b,k,w2,hk1,qcp (by rw [hk2]; exact w3)⟩
  have hvl:vs.length=ks.length:=by omega
  clear pv lv hes en ek hne few q hkl nd z
  induction vs generalizing ks with
  | nil=>cases ks with
   | nil=>exact ⟨[],rfl,.nil⟩
   | cons k ks=>simp at hvl
  | cons v vs ih =>
   cases ks with
   | nil=>simp at hvl
   | cons k ks =>
    obtain ⟨b,k',rfl,e1,e2⟩:=this 0 v rfl
    simp at e1; subst e1
    obtain ⟨bs,rfl,t⟩:=ih ks (fun j v e=>by simpa using this (j + 1) v (by simpa using e)) (by simpa using hvl)
    exact ⟨b :: bs,rfl,.cons e2 t⟩
 have hbl:bs.length=ks.length:=Paired.length tb
 have I2:Inv X pins σ H { s with heap:=h',toks:=tk }:=I.kept (t':=tk) kp
 refine ⟨by simpa [hbl] using few,fun i j=>lexI (ks.getD i []) (ks.getD j []),tuples' true,ordI _,fun h2 h'' kp2=>qjH hbl (by simpa using h2) fun j b k e1 e2=>⟨?_,hne k (List.mem_of_getElem? e2)⟩,fun p e h'' o1 o2 kp2 at2=>?_⟩
 ·exact (I2.tupI (qdh tb e1 e2)).at fun o e=>kp2 b o e
 ·rw [List.length_map,hbl] at o1 o2
  have pw:=qc6 o1 o2
  refine ⟨.ref h'.objs.size,_,I2.laid (t':=tk) (a:=h'.objs.size) (o := .lst ((p.toList.map fun i=>bs.getD i 0).map V.ref)) kp2 (Nat.le_refl _) ⟨?_,(p.toList.map fun i=>bs.getD i 0).map Value.ref,e,qb9 _,?_⟩,rfl,q _ (p.toList.map fun i=>bs.getD i 0) (p.toList.map fun i=>ks.getD i []) (I2.hok.fresh (Nat.le_refl _)) (qk5 o1 rfl _) ?_ (qjN tb o1 rfl)⟩
  ·simp; rw [o1.size,sizeLine_eq]; omega
  ·rw [at2]
   congr 3
   unfold qem
   rw [List.map_map]
   congr 1
   refine List.map_congr_left fun i hi=>?_
   have lt:i < ks.length:=List.mem_range.mp ((Array.perm_iff_toList_perm.mp o1).mem_iff.mp hi)
   simp [hbl ▸ lt]
  ·exact List.pairwise_map.mpr pw
end
def itV (v d:Addr):HO := .ext fun h=>h.IsItemsView v d
def vaV (v d:Addr):HO := .ext fun h=>h.IsValuesView v d
section
variable {X:Cx}{o:Expr}{to:TE}{apos cpos:Pos}
def qmL (to:TE):TE:=fun σ H Q=>to σ H fun x H1=>∃ d kvs,x = .ref d/\Rd H1 d (.dT kvs)/\∀ v,H1 v=none->Q (.ref v) (upd H1 v (itV v d))
def qlp (to:TE):TE:=fun σ H Q=>to σ H fun x H1=>∃ d kvs,x = .ref d/\Rd H1 d (.dT kvs)/\∀ v,H1 v=none->Q (.ref v) (upd H1 v (vaV v d))
theorem qgG (ho:PE X o to)(hbase:attributeBase o "items" X.env (eval o X.env)=eval o X.env:=by rfl)(hline:(apos.endLine == cpos.line)=true:=by rfl):PE X (.Call (.Attribute o "items" apos) [] [] cpos) (qmL to):=by
 intro pins s σ H Q I h
 refine wpAny_Call_method0_late hbase hline (thn (ho pins s σ H _ I h) fun v s1 ⟨x,H1,I1,r1,d,kvs,ex,hd,q⟩=>?_)
 subst ex
 cases r1
 obtain ⟨lo,z,nd,es,ep,de,en⟩:=I1.entT hd
 obtain ⟨ob,gb,xb,db⟩:=id de
 refine ⟨"dict", "dict.items",F.plainAttrs_dict,F.slot_dict_items,F.type_dict_items,de.ty,(fun b e=>by cases e; exact ⟨ob,gb,xb.2.1⟩),Calls.callWith_builtin rfl (PySem.evalArgs_none ?_)⟩
 refine call_meetsIn F.slot_dict_items de.ty F.entry_dict_items (F.args_dict_items_1 _) (qdI lo) ⟨⟨es,ep,de⟩,.ref s1.heap.objs.size,_,I1.laid (t':=s1.toks) (o:=itV s1.heap.objs.size d) (fun b u e=>Heap.get?_push_of_some _ e) (Nat.le_refl _) ⟨⟨_,Heap.get?_push_size _ rfl,rfl,rfl⟩,⟨_,Heap.get?_push_size _ rfl⟩,fun h1 h2 ⟨o,e,r⟩ k=>⟨o,k o e,r⟩⟩,rfl,q _ (I1.hok.fresh (Nat.le_refl _))⟩
theorem qis (ho:PE X o to)(hbase:attributeBase o "values" X.env (eval o X.env)=eval o X.env:=by rfl)(hline:(apos.endLine == cpos.line)=true:=by rfl):PE X (.Call (.Attribute o "values" apos) [] [] cpos) (qlp to):=by
 intro pins s σ H Q I h
 refine wpAny_Call_method0_late hbase hline (thn (ho pins s σ H _ I h) fun v s1 ⟨x,H1,I1,r1,d,kvs,ex,hd,q⟩=>?_)
 subst ex
 cases r1
 obtain ⟨lo,z,nd,es,ep,de,en⟩:=I1.entT hd
 obtain ⟨ob,gb,xb,db⟩:=id de
 refine ⟨"dict", "dict.values",F.plainAttrs_dict,F.slot_dict_values,F.type_dict_values,de.ty,(fun b e=>by cases e; exact ⟨ob,gb,xb.2.1⟩),Calls.callWith_builtin rfl (PySem.evalArgs_none ?_)⟩
 refine call_meetsIn F.slot_dict_values de.ty F.entry_dict_values (F.args_dict_values_1 _) (qfx lo) ⟨⟨es,ep,de⟩,.ref s1.heap.objs.size,_,I1.laid (t':=s1.toks) (o:=vaV s1.heap.objs.size d) (fun b u e=>Heap.get?_push_of_some _ e) (Nat.le_refl _) ⟨⟨_,Heap.get?_push_size _ rfl,rfl,rfl⟩,⟨_,Heap.get?_push_size _ rfl⟩,fun h1 h2 ⟨o,e,r⟩ k=>⟨o,k o e,r⟩⟩,rfl,q _ (I1.hok.fresh (Nat.le_refl _))⟩
end
section
variable {X:Cx}
theorem qjw:qb8 X (.builtin "len") (fun xs H Q=>∃ d kvs,xs=[.ref d]/\Rd H d (.dT kvs)/\Q (.int kvs.length) H):=by
 intro pins s σ H xs us Q I r h
 obtain ⟨d,kvs,rfl,hd,q⟩:=h
 obtain ⟨u,rfl,ru⟩:=vals1 r
 obtain rfl:u=Value.ref d:=ru
 obtain ⟨lo,z,nd,es,ep,de,en⟩:=I.entT hd
 obtain ⟨ob,gb,xb,db⟩:=id de
 rw [sizeLine_eq] at z
 have ml:MeetsIn X.prog X.w (Builtin.«dict.__len__» ⟨[.ref d],[]⟩) (fun _ R s'=>(∃ es ep,DEnt s'.heap d es ep/\es.size=kvs.length)/\R (.ok (.ret (.int kvs.length s'.toks))) { s' with toks:=s'.toks + 1 }) :=
  .of_wp fun A R s' ⟨⟨es,ep,⟨ob,gb,xb,db⟩,hz⟩,h⟩=>by
   show wpAny _ _ (dictSize d >>= _) _ _ s'
   unfold dictSize
   refine wpAny_bind (wpAny_bind (wpAny_dictEntries gb db (wpAny_pure ?_)))
   show wpAny _ _ (Builtin.Dict.pendingCount d >>= _) _ _ s'
   refine wpAny_bind (wpAny_pendingCount_other lo (wpAny_ret_mkInt ?_))
   rw [Nat.add_zero,hz]; exact h
 refine Calls.call_function_entry kind_len plain_len entry_len (args_len1 _) ?_
 unfold Builtin.«len»
 refine wpAny_bind (m:=oneArg "len" _) (wpAny_pure (wpAny_bind (m:=callSpecial? (.ref d) (Str.ofString "__len__")) (wpAny_callSpecial?_slot (name:=Str.ofString "__len__") de.ty F.slot_dict_len (call_meetsIn F.slot_dict_len de.ty F.entry_dict_len (F.args_dict_len_1 _) ml ⟨⟨es,ep,de,en.size⟩,?_⟩))))
 show wpAny _ _ _ _ _ { s with toks:=s.toks + 1 }
 refine wpAny_bind (wpAny_holding (wpAny_pure (wpAny_bind (wpAny_letGo ?_))))
 show wpAny _ _ (if ((kvs.length:Nat):Int) < 0 then _ else _) _ _ _
 rw [if_neg (by omega)]
 show wpAny _ _ (if ((kvs.length:Nat):Int) ≥ 2 ^ 63 then _ else _) _ _ _
 rw [if_neg (by omega)]
 exact wpAny_bind (wpAny_mkInt (wpAny_pure ⟨_,rfl,.int kvs.length,H,I.tok _,⟨_,rfl⟩,q⟩))
theorem qfN (f:Nat->Int)(ns:List Int)(h:∀ i,i < ns.length->f i=ns.getD i 0):PySem.preSum f ns.length=ns.sum:=by
 have:∀ m,m≤ns.length->PySem.preSum f m=(ns.take m).sum:=by
  intro m
  induction m with
  | zero=>intro _; simp [PySem.preSum]
  | succ m ih =>
   intro hm
   show PySem.preSum f m + f m=_
   have hl:m < ns.length:=by omega
   rw [ih (by omega),h m hl,List.take_succ_eq_append_getElem hl,List.sum_append]
   simp [hl]
 have:=this ns.length (Nat.le_refl _)
 rwa [List.take_length] at this
theorem qju (hc:X.calm=true):qb8 X (.builtin "sum") (fun xs H Q=>∃ v d kvs ns,xs=[.ref v]/\H v=some (vaV v d)/\Rd H d (.dT kvs)/\kvs.map (·.2)=iv ns/\Q (.int ns.sum) H):=by
 intro pins s σ H xs us Q I r h
 obtain ⟨v,d,kvs,ns,rfl,hv,hd,en',q⟩:=h
 obtain ⟨u,rfl,ru⟩:=vals1 r
 obtain rfl:u=Value.ref v:=ru
 obtain ⟨lo,z,nd,es,ep,de,en⟩:=I.entT hd
 obtain ⟨vw,_,_⟩:=(show qaR X.prog X.w H s.heap v (vaV v d) from I.hok v _ hv)
 have hl:kvs.length=ns.length:=by have:=congrArg List.length en'; simpa using this
 have hes:=en.size
 refine PySem.call_sum_walkG (qjM vw de ⟨_,_,_,_,_,_,(fun i=>ns.getD i 0),rfl,qhQ (A:=X.A.in1) (show X.A.in1.handled=none from I.ok.hd hc) _ d (Nat.ne_of_lt de.lt) es ep,⟨⟨_,Heap.get?_push_size _ rfl,rfl,rfl⟩,de.at fun o e=>Heap.get?_push_of_some _ e⟩,?_,?_,fun h' tk t' kp=>?_⟩)
 ·intro b hb
  show b < (s.heap.push _).objs.size
  rw [Heap.size_push]
  simp only [List.mem_cons,List.not_mem_nil,or_false] at hb
  rcases hb with rfl | rfl
  ·exact Nat.lt_succ_self _
  ·exact Nat.lt_succ_of_lt de.lt
 ·rintro i w' ⟨e,he,rfl⟩
  obtain ⟨kv,b,w1,w2,w3,w4⟩:=en.at he
  have hk:(kvs.map (·.2))[i]?=some kv.2:=by rw [List.getElem?_map,w1]; rfl
  rw [en',List.getElem?_map,Option.map_eq_some_iff] at hk
  obtain ⟨n,hn1,hn2⟩:=hk
  rw [<- hn2] at w4
  obtain ⟨t,ht⟩:=(show ∃ t,e.val=Value.int n t from w4)
  refine ⟨t,?_⟩
  rw [ht]; congr 1
  show n=ns.getD i 0
  rw [List.getD_eq_getElem?_getD,hn1]; rfl
 ·have e:PySem.preSum (fun i=>ns.getD i 0) es.size=ns.sum:=by rw [hes,hl]; exact qfN _ ns fun i _=>rfl
  rw [e]
  refine ⟨.int ns.sum,H,I.kept (t':=tk) fun b o g=>kp b o ?_ (Heap.get?_push_of_some _ g),⟨_,rfl⟩,q⟩
  intro hm
  rw [List.mem_singleton.mp hm] at g
  exact absurd (Heap.lt_size g) (Nat.lt_irrefl _)
def qmY:List V->Hp->VK->Prop:=fun xs H Q=>∃ (d:Addr) (kvs:List (List Key × V)) (ks:List (List Int)),xs=[.ref d]/\Rd H d (.dT kvs)/\kvs.map (·.1)=ks.map (fun k=>k.map Sum.inl) /\
 ∀ (q:Addr) (bs:List Addr),H q=none->qa4 H bs ks->Q (.ref q) (upd H q (.lst (bs.map V.ref)))
theorem qma {H:Hp}{kvs:List (List Key × V)}{es:Array DictEntry}{ks:List (List Int)}(en:EntT H kvs es)(ek:kvs.map (·.1)=ks.map (fun k=>k.map Sum.inl)){vs:List Value}(lv:vs.length=es.size)(pv:∀ (j:Nat) v,vs[j]?=some v->qmE es j v) :
  ∃ bs:List Addr,vs=bs.map Value.ref/\qa4 H bs ks:=by
 have hkl:kvs.length=ks.length:=by have:=congrArg List.length ek; simpa using this
 have hes:=en.size
 have this:∀ (j:Nat) v,vs[j]?=some v->∃ b k,v = .ref b/\ks[j]?=some k/\H b=some (.tup (iv k)):=fun j v e=>by
  obtain ⟨e',he,rfl⟩:=pv j v e
  obtain ⟨kv,b,w1,w2,w3,_⟩:=en.at he
  have hk:(kvs.map (·.1))[j]?=some kv.1:=by rw [List.getElem?_map,w1]; rfl
  rw [ek,List.getElem?_map,Option.map_eq_some_iff] at hk
  obtain ⟨k,hk1,hk2⟩:=hk
  exact ⟨b,k,w2,hk1,qcp (by rw [hk2]; exact w3)⟩
 have hvl:vs.length=ks.length:=by omega
 clear pv lv hes en ek hkl
 induction vs generalizing ks with
 | nil=>cases ks with
  | nil=>exact ⟨[],rfl,.nil⟩
  | cons k ks=>simp at hvl
 | cons v vs ih =>
  cases ks with
  | nil=>simp at hvl
  | cons k ks =>
   obtain ⟨b,k',rfl,e1,e2⟩:=this 0 v rfl
   simp at e1; subst e1
   obtain ⟨bs,rfl,t⟩:=ih (ks:=ks) (fun j v e=>by simpa using this (j + 1) v (by simpa using e)) (by simpa using hvl)
   exact ⟨b :: bs,rfl,.cons e2 t⟩
theorem qhI (hc:X.calm=true):qb8 X (.type "list") qmY:=by
 intro pins s σ H xs us Q I r h
 obtain ⟨d,kvs,ks,rfl,hd,ek,q⟩:=h
 obtain ⟨u,rfl,ru⟩:=vals1 r
 obtain rfl:u=Value.ref d:=ru
 obtain ⟨lo,z,nd,es,ep,de,en⟩:=I.entT hd
 have hkl:kvs.length=ks.length:=by have:=congrArg List.length ek; simpa using this
 have hes:=en.size
 refine kdl_call (qgi lo) (I.ok.hd hc) de (by omega) fun h' tk acc c kp at2 it=>?_
 obtain ⟨bs,e1,tb⟩:=qma en ek (vs:=acc.toList) (by rw [Array.length_toList]; exact it.1) fun j v e=>it.2 j v (by rw [<- Array.getElem?_toList]; exact e)
 have hbl:bs.length=ks.length:=Paired.length tb
 refine ⟨.ref s.heap.objs.size,_,I.laid (t':=tk) (a:=s.heap.objs.size) (o := .lst (bs.map V.ref)) kp (Nat.le_refl _) ⟨by simp; omega,bs.map Value.ref,c,qb9 _,?_⟩,rfl,q _ bs (I.hok.fresh (Nat.le_refl _)) tb⟩
 rw [at2,<- e1]
end
section
variable {X:Cx}{pins:List (Addr × Obj)}{σ:St}{H:Hp}{s:Shared}{A:Around}{E:Value->Shared->Prop}{v d:Addr}{es:Array DictEntry}{ep:Nat}{kvs:List (List Key × V)}
theorem qeB {Q:List Value->Shared->Prop}(hh:A.handled=none)(I:Inv X pins σ H s)(vw:s.heap.IsItemsView v d)(de:DEnt s.heap d es ep)(en:EntT H kvs es)(few:es.size≤sizeLine)
  (fin:∀ (s':Shared) H' as,Inv X pins σ H' s'->Prd H H' kvs as->as.length=kvs.length->Q (as.map Value.ref) s'):wpAny (model X.prog X.w) A (collect (.ref v)) Q E s:=by
 unfold collect
 refine wpAny_bind (wpAny_runValue (codeAny_builtin PySem.F.entry_proto_collect ?_))
 rw [Around.under_plainId PySem.F.plain_proto_collect _]
 show wpAny _ A.in1 (newList [] >>= fun l=>again (.builtin "list.__iadd__" ⟨[l,.ref v],[]⟩)) _ _ s
 refine wpAny_bind (wpAny_newObj_type (wpAny_pure ⟨plainId_quiet PySem.F.plain_list_iadd _,codeAny_builtin PySem.F.entry_list_iadd ?_⟩))
 rw [Around.under_plainId PySem.F.plain_list_iadd _]
 show wpAny _ A.in1 (Builtin.List.listExtendWith (.ref s.heap.objs.size) (.ref v) (.ref s.heap.objs.size)) _ _ { s with heap:=s.heap.push { cls := .type "list",data := .seq #[] } }
 have gS:(s.heap.push { cls := .type "list",data := .seq #[] }).get? s.heap.objs.size=some { cls := .type "list",data := .seq #[] }:=Heap.get?_push_size _ rfl
 have vw1:(s.heap.push { cls := .type "list",data := .seq #[] }).IsItemsView v d:=let ⟨o,e,r⟩:=vw; ⟨o,Heap.get?_push_of_some _ e,r⟩
 have de1:DEnt (s.heap.push { cls := .type "list",data := .seq #[] }) d es ep:=de.at fun o e=>Heap.get?_push_of_some _ e
 have nv:s.heap.objs.size≠v:=let ⟨o,e,_⟩:=vw; Nat.ne_of_gt (Heap.lt_size e)
 have zS:(s.heap.push { cls := .type "list",data := .seq #[] }).objs.size=s.heap.objs.size + 1:=Heap.size_push ..
 unfold Builtin.List.listExtendWith
 refine wpAny_bind (wpAny_typeOf (T := "dict_items") (s:={ s with heap:=s.heap.push { cls := .type "list",data := .seq #[] } }) (Heap.IsItemsView.typeIs (s:={ s with heap:=s.heap.push { cls := .type "list",data := .seq #[] } }) vw1) ?_)
 simp only [show Builtin.List.listSameRef (.ref s.heap.objs.size) (.ref v)=false by simp [Builtin.List.listSameRef,nv],show (Value.type "dict_items" == Value.type "list")=false by decide,show (Value.type "dict_items" == Value.type "tuple")=false by decide,Bool.or_false,Bool.false_eq_true,if_false]
 refine wpAny_bind (qff (s:={ s with heap:=s.heap.push { cls := .type "list",data := .seq #[] } }) vw1 de1 fun h2 ii k2=>?_)
 have k2':∀ b o,s.heap.get? b=some o->h2.get? b=some o:=fun b o e=>k2 b o (Heap.get?_push_of_some _ e)
 have gS2:=k2 _ _ gS
 refine wpAny_bind (wpAny_holding (kdx_hint (let ⟨o,e,c,_⟩:=vw1; ⟨o,k2 _ _ e,c⟩) ?_))
 have loop:∀ (h3:Heap) (c:Nat),(∀ b o,b≠s.heap.objs.size->h2.get? b=some o->h3.get? b=some o)->h3.get? s.heap.objs.size=some { cls := .type "list",data := .seq #[] c } ->
   codeAny (model X.prog X.w) A (.builtin "list.extend.loop" ⟨[.ref s.heap.objs.size,.ref (s.heap.push { cls := .type "list",data := .seq #[] }).objs.size,.ref s.heap.objs.size],[]⟩) (fun (x:Result) s'=>match x with
    | .ok (.ret v)=>wpAny (model X.prog X.w) A (match v with
     | .ref a=>do
      let o <- load a
      match o.data with
      | .seq xs _=>pure xs.toList
      | _=>unsupported "internal:collect"
     | _=>unsupported "internal:collect") Q E s'
    | .ok _=>False
    | .error e=>E e s') { s with heap:=h3 }:=by
  intro h3 c k3 g3
  have k3':∀ b o,s.heap.get? b=some o->h3.get? b=some o:=fun b o e=>k3 b o (Nat.ne_of_lt (Heap.lt_size e)) (k2' b o e)
  have I3:Inv X pins σ H { s with heap:=h3 }:=I.kept (t':=s.toks) k3'
  have ii3:ItAt h3 (s.heap.push { cls := .type "list",data := .seq #[] }).objs.size d 0 es.size ep:=⟨_,_,_,_,k3 _ _ (by rw [zS]; omega) ii,.inl rfl⟩
  refine qhy (X:=X) (pins:=pins) (σ:=σ) (H0:=H) (kvs:=kvs) (S:=s.heap.objs.size) (it:=(s.heap.push { cls := .type "list",data := .seq #[] }).objs.size) hh en few (Nat.ne_of_lt (by rw [zS]; exact Nat.lt_succ_self _)) (Nat.ne_of_lt de.lt) (Nat.ne_of_lt (Nat.lt_of_lt_of_le de.lt (by rw [zS]; omega))) (fun s' H' as acc c' I' pr la ea gS' nS'=>?_)
   es.size 0 _ H [] #[] c (by omega) (Nat.zero_le _) I3 (I.fpOk (by rw [zS]; omega) (I.hok.fresh (by rw [zS]; omega))) (I.fpOk (Nat.le_refl _) (I.hok.fresh (Nat.le_refl _))) ii3 (de.at fun o e=>k3' d o e) ⟨Same.refl _,List.nodup_nil,(fun a ha=>nomatch ha),(fun j a e=>by simp at e)⟩ rfl rfl g3
  show wpAny _ A (load s.heap.objs.size >>= _) _ _ s'
  refine wpAny_bind (wpAny_load gS' (wpAny_pure ?_))
  rw [ea]
  exact fin s' H' as I' pr la
 refine wpAny_ite_split (fun _=>?_) (fun _=>wpAny_pure ⟨plainId_quiet PySem.F.plain_extend_loop _,loop h2 0 (fun b o _ e=>e) gS2⟩)
 refine wpAny_bind (wpAny_rule (wpAny_bind ?_))
 show wpAny _ _ (updateSeq s.heap.objs.size (·.push .none) >>= fun _=>updateSeq s.heap.objs.size (·.pop)) _ _ _
 refine wpAny_bind (wpAny_updateSeq gS2 rfl ?_)
 have gS3:=Heap.get?_update_self (Obj.mapSeq (·.push Value.none)) gS2 rfl
 refine wpAny_updateSeq (hz:=by seq_fits) gS3 rfl ?_
 have gS4:=Heap.get?_update_self (Obj.mapSeq (·.pop)) gS3 rfl
 refine wpAny_pure ⟨plainId_quiet PySem.F.plain_extend_loop _,loop _ _ (fun b o hb e=>?_) gS4⟩
 exact (Heap.get?_update_other _ _ (Ne.symm hb)).trans ((Heap.get?_update_other _ _ (Ne.symm hb)).trans e)
end
abbrev PrsAt (H H':Hp)(as:List Addr)(rs:List (List Int × V)):Prop:=Paired (fun a r=>∃ b,H b=some (.tup (iv r.1))/\H a=none/\H' a=some (.tup [.ref b,r.2])) as rs
abbrev kI (kw:List Int × V):List Key × V:=(kw.1.map Sum.inl,kw.2)
theorem qhM {prog:Program}{w:World}{A:Around}{s:Shared}{as:List Addr}{ks:List (List Int)}(hu:A.units < cLine)(hl:as.length=ks.length)(h2:2≤as.length)(nd:ks.Nodup)
  (ht:∀ (j:Nat) a k,as[j]?=some a->ks[j]?=some k->∃ o b u n,s.heap.get? a=some o/\o.cls = .type "tuple" /\ o.data = .seq #[.ref b,u] n/\TupI s.heap b k) :
  Asks prog w A (as.map Value.ref) (fun i j=>lexI (ks.getD i []) (ks.getD j [])) (tuples' false) s where
 kind:=fun E Q h=>by
  obtain ⟨fs,hf,hi,hn⟩:∃ fs:List Value,KatTups s.heap (as.map Value.ref) fs/\(∀ v∈fs,∃ b k,v = .ref b/\TupI s.heap b k)/\fs.length=as.length:=by
   clear h2 h nd
   induction as generalizing ks with
   | nil=>exact ⟨[],.nil,(fun v hv=>nomatch hv),rfl⟩
   | cons a as ih =>
    cases ks with
    | nil=>simp at hl
    | cons k ks =>
     obtain ⟨fs,h1,h2,h3⟩:=ih (ks:=ks) (by simpa using hl) fun j b' k' e1 e2=>ht (j + 1) b' k' (by simpa using e1) (by simpa using e2)
     obtain ⟨o,b,u,n,e,c,d,ti⟩:=ht 0 a k rfl rfl
     refine ⟨.ref b :: fs,.cons e c d rfl h1,fun v hv=>?_,by simp [h3]⟩
     rcases List.mem_cons.mp hv with rfl | hv
     ·exact ⟨_,_,rfl,ti⟩
     ·exact h2 v hv
  refine kat_kind (T := .type "tuple") hf (by omega) (fun v hv=>?_) (by decide) h
  obtain ⟨b,k,rfl,o,items,n,e,c,_⟩:=hi v hv
  exact c ▸ (show Looks _ s.heap (typeOf (.ref b)) o.cls from (Looks.ld e).andThen .now)
 less:=fun i j ⟨hi,hj,hne⟩ Q h=>by
  rw [List.length_map] at hi hj
  have g1:(as.map Value.ref).getD i Value.none = .ref as[i]:=by simp [hi]
  have g2:(as.map Value.ref).getD j Value.none = .ref as[j]:=by simp [hj]
  have l1:i < ks.length:=by omega
  have l2:j < ks.length:=by omega
  have k1:ks.getD i []=ks[i]:=by simp [l1]
  have k2:ks.getD j []=ks[j]:=by simp [l2]
  rw [g1,g2]
  rw [k1,k2] at h
  obtain ⟨o1,b1,u1,n1,e1,c1,d1,t1⟩:=ht i _ _ (by simp [hi]:as[i]?=some as[i]) (by simp [l1]:ks[i]?=some ks[i])
  obtain ⟨o2,b2,u2,n2,e2,c2,d2,t2⟩:=ht j _ _ (by simp [hj]:as[j]?=some as[j]) (by simp [l2]:ks[j]?=some ks[j])
  refine qhv e1 d1 e2 d2 t1 t2 (fun z=>hne ?_) hu h
  have pw:=List.pairwise_iff_getElem.mp nd
  rcases Nat.lt_trichotomy i j with x | x | x
  ·exact absurd z (pw i j l1 l2 x)
  ·exact x
  ·exact absurd z.symm (pw j i l2 l1 x)
def qjZ:List V->Hp->VK->Prop:=fun xs H Q=>∃ (v d:Addr) (kws:List (List Int × V)),xs=[.ref v]/\H v=some (itV v d)/\Rd H d (.dT (kws.map kI))/\kws.length < 65536 /\
 ∀ (H':Hp) (q:Addr) (as:List Addr) (rs:List (List Int × V)),Same H H'->H' q=none->rs.Perm kws->qcY (rs.map (·.1))->PrsAt H H' as rs->Q (.ref q) (upd H' q (.lst (as.map V.ref)))
section
variable {X:Cx}
theorem qiI {ks:List (List Int)}(h:(ks.map fun k=>k.map (Sum.inl:Int->Key)).Nodup):ks.Nodup:=by
 induction ks with
 | nil=>exact List.nodup_nil
 | cons k ks ih =>
  rw [List.map_cons,List.nodup_cons] at h
  exact List.nodup_cons.mpr ⟨fun z=>h.1 (List.mem_map_of_mem z),ih h.2⟩
theorem qcX (hc:X.calm=true)(hu:X.A.units + 2 < cLine):qb8 X (.builtin "sorted") qjZ:=by
 intro pins s σ H xs us Q I r h
 obtain ⟨v,d,kws,rfl,hv,hd,few,q⟩:=h
 obtain ⟨u,rfl,ru⟩:=vals1 r
 obtain rfl:u=Value.ref v:=ru
 obtain ⟨lo,z,nd,es,ep,de,en⟩:=I.entT hd
 obtain ⟨vw,_,_⟩:=(show qaR X.prog X.w H s.heap v (itV v d) from I.hok v _ hv)
 have hes:=en.size
 rw [List.length_map] at hes
 refine qeO (qeB (A:=X.A.in1) (show X.A.in1.handled=none from I.ok.hd hc) I vw de en (by rw [hes,sizeLine_eq]; omega) fun s' H' as I' pr la=>?_)
 rw [List.length_map] at la
 have nk:(kws.map (·.1)).Nodup:=by
  have e:((kws.map kI).map (·.1))=(kws.map (·.1)).map fun k=>k.map (Sum.inl:Int->Key):=by rw [List.map_map,List.map_map]; rfl
  rw [e] at nd
  exact qiI nd
 have at_:∀ (j:Nat) a,as[j]?=some a->∃ r b,kws[j]?=some r/\H b=some (.tup (iv r.1))/\H a=none/\H' a=some (.tup [.ref b,r.2]):=fun j a e=>by
  obtain ⟨kv,b,w1,w2,w3⟩:=pr.at_ j a e
  rw [List.getElem?_map,Option.map_eq_some_iff] at w1
  obtain ⟨r,w4,w5⟩:=w1
  subst w5
  exact ⟨r,b,w4,qcp w2,pr.new a (List.mem_of_getElem? e),w3⟩
 have hkl:as.length=(kws.map (·.1)).length:=by simp [la]
 refine ⟨by simpa [la] using few,fun i j=>lexI ((kws.map (·.1)).getD i []) ((kws.map (·.1)).getD j []),tuples' false,ordI _,fun h2 h'' kp2=>qhM hu hkl (by simpa using h2) nk fun j a k e1 e2=>?_,fun p e h'' o1 o2 kp2 at2=>?_⟩
 ·obtain ⟨r,b,w1,w2,w3,w4⟩:=at_ j a e1
  rw [List.getElem?_map,w1] at e2
  cases e2
  obtain ⟨z,its,rv,o,ge,ce,n,de',_⟩:=(show qaR X.prog X.w H' s'.heap a (.tup [.ref b,r.2]) from I'.hok a _ w4)
  cases rv with
  | cons ra rr=>cases rr with
   | cons rb rr=>cases rr; cases ra; exact ⟨o,b,_,n,kp2 a o ge,ce,de',(I'.tupI (pr.same _ _ w2)).at fun o e=>kp2 b o e⟩
 ·rw [List.length_map,la] at o1 o2
  have pw:=qc6 o1 o2
  have lt:∀ i∈p.toList,i < kws.length:=fun i hi=>List.mem_range.mp ((Array.perm_iff_toList_perm.mp o1).mem_iff.mp hi)
  refine ⟨.ref s'.heap.objs.size,_,I'.laid (t':=s'.toks) (a:=s'.heap.objs.size) (o := .lst ((p.toList.map fun i=>as.getD i 0).map V.ref)) kp2 (Nat.le_refl _) ⟨?_,(p.toList.map fun i=>as.getD i 0).map Value.ref,e,qb9 _,?_⟩,rfl,
   q H' _ (p.toList.map fun i=>as.getD i 0) (p.toList.map fun i=>kws.getD i ([],.non)) pr.same (I'.hok.fresh (Nat.le_refl _)) (qk5 o1 rfl _) ?_ ?_⟩
  ·simp; rw [o1.size,sizeLine_eq]; omega
  ·rw [at2]
   congr 3
   unfold qem
   rw [List.map_map]
   congr 1
   refine List.map_congr_left fun i hi=>?_
   have:=lt i hi
   have:i < as.length:=by omega
   simp [this]
  ·unfold qcY
   rw [List.map_map]
   refine List.pairwise_map.mpr (pw.imp_of_mem fun {i j} hi hj h=>?_)
   have l1:=lt i hi
   have l2:=lt j hj
   simpa [l1,l2] using h
  ·refine qdi (by simp) fun j x y e1 e2=>?_
   rw [List.getElem?_map,Option.map_eq_some_iff] at e1 e2
   obtain ⟨i,hi,rfl⟩:=e1
   obtain ⟨i',hi',rfl⟩:=e2
   rw [hi] at hi'; cases hi'
   have l1:=lt i (List.mem_of_getElem? hi)
   have l2:i < as.length:=by omega
   obtain ⟨r,b,w1,w2,w3,w4⟩:=at_ i (as.getD i 0) (by simp [l2])
   have:kws.getD i ([],.non)=r:=by rw [List.getD_eq_getElem?_getD,w1]; rfl
   rw [this]
   exact ⟨b,w2,w3,w4⟩
end
structure qcA (J:It)(n:Nat)(f:Nat->Hp->V->Hp->Prop)(ok:Hp->Prop):Prop where
 go:∀ i H,i < n->ok H->J.go i H
 yld:∀ i H x H',i < n->ok H->J.yld i H x H'->f i H x H'
 stop:∀ H,ok H->J.stop n H
section
variable {J:It}{n:Nat}{f:Nat->Hp->V->Hp->Prop}{ok:Hp->Prop}
theorem qhC (Y:qcA J n f ok){g:TG}{tb:TS}{D:Ends}{σ:St}{H:Hp}(Pv:Nat->St->Hp->Prop)(h0:Pv 0 σ H)(hok:∀ i σ H,Pv i σ H->ok H)
  (hs:∀ i x σ H H',i < n->Pv i σ H->f i H x H'->g x σ H' fun σ2 H2=>tb { D with nx:=Pv (i + 1),ct:=Pv (i + 1),bk:=D.nx } σ2 H2) (hd:∀ σ H,Pv n σ H->D.nx σ H) :
  ∃ W:Nat->Nat->St->Hp->Prop,(∃ m,W 0 m σ H)/\∀ i m σ H,W i m σ H ->
   (J.stop i H/\D.nx σ H)\/(J.go i H/\∃ N:St->Hp->Prop,(∀ σ' H',N σ' H'->∃ m',m' < m/\W (i + 1) m' σ' H')/\∀ x H',J.yld i H x H'->g x σ H' fun σ2 H2=>tb { D with nx:=N,ct:=N,bk:=D.nx } σ2 H2):=by
 refine ⟨fun i m σ H=>m=n - i/\i≤n/\Pv i σ H,⟨n,by simp,Nat.zero_le _,h0⟩,?_⟩
 rintro i m σ H ⟨rfl,hi,p⟩
 have o:=hok i σ H p
 by_cases hlt:i < n
 ·exact .inr ⟨Y.go i H hlt o,Pv (i + 1),fun σ' H' p'=>⟨n - (i + 1),by omega,rfl,hlt,p'⟩,fun x H' y=>hs i x σ H H' hlt p (Y.yld i H x H' hlt o y)⟩
 ·have e:i=n:=by omega
  subst e
  exact .inl ⟨Y.stop H o,hd σ H p⟩
theorem qes (Y:qcA J n f ok){g:TG}{tc:TT}{tb:TB}{σ:St}{H:Hp}{Q:St->Hp->Prop}(Pv:Nat->St->Hp->Prop)(h0:Pv 0 σ H)(hok:∀ i σ H,Pv i σ H->ok H)
  (hs:∀ i x σ' H' H'',i < n->Pv i σ' H'->f i H' x H''->∀ R:St->Hp->Prop,(∀ a b,Pv (i + 1) a b->R a b)->g x σ' H'' fun σ2 H3=>tc σ2 H3 fun b H4=>if b=true then tb σ2 H4 R else R σ2 H4) (hd:∀ σ' H',Pv n σ' H'->Q σ' H'):qkO J g tc tb σ H Q:=by
 refine ⟨fun i m σ' H'=>m=n - i/\i≤n/\Pv i σ' H',⟨n,by simp,Nat.zero_le _,h0⟩,?_⟩
 rintro i m σ' H' ⟨rfl,hi,p⟩
 have o:=hok i σ' H' p
 by_cases hlt:i < n
 ·exact .inr ⟨Y.go i H' hlt o,fun x H2 y=>hs i x σ' H' H2 hlt p (Y.yld i H' x H2 hlt o y) _ fun a b pv=>⟨n - (i + 1),by omega,rfl,hlt,pv⟩⟩
 ·have e:i=n:=by omega
  subst e
  exact .inl ⟨Y.stop H' o,hd σ' H' p⟩
theorem qcW (Y:qcA J n f ok){g:TG}{tc:TT}{te:TE}{H:Hp}{R:Addr->Hp->Prop}{σ1:St}(Pv:Addr->Nat->List V->St->Hp->Prop)(hn:n≤100000)(hp0:∀ p,H p=none->Pv p 0 [] σ1 (upd H p (.lst [])))
  (hok:∀ p i ys σ' H',H p=none->Pv p i ys σ' H'->ok H')
  (hs:∀ p i ys σ' H' x H'',H p=none->i < n->ys.length≤i->Pv p i ys σ' H'->H' p=some (.lst ys)->f i H' x H''->∀ (Q1:V->St->Hp->Prop) (Q2:St->Hp->Prop),(∀ v σ2 H5,H5 p=some (.lst ys)->Pv p (i + 1) (ys ++ [v]) σ2 (upd H5 p (.lst (ys ++ [v])))->Q1 v σ2 H5)->(∀ σ2 H4,H4 p=some (.lst ys)->Pv p (i + 1) ys σ2 H4->Q2 σ2 H4) ->
    g x σ' H'' fun σ2 H3=>tc σ2 H3 fun b H4=>if b=true then te σ2 H4 fun v H5=>Q1 v σ2 H5 else Q2 σ2 H4)
  (q:∀ p ys σ' H',H p=none->Pv p n ys σ' H'->H' p=some (.lst ys)->ys.length≤n->R p H') :
  ∀ p,H p=none->∃ W:Nat->Nat->List V->St->Hp->Prop,(∃ m,W 0 m [] σ1 (upd H p (.lst [])))/\∀ i m ys σ' H',W i m ys σ' H' ->
   (J.stop i H'/\R p H')\/(J.go i H'/\∀ x H2,J.yld i H' x H2->g x σ' H2 fun σ2 H3=>tc σ2 H3 fun b H4=>if b=true then te σ2 H4 fun v H5=>ys.length < sizeLine/\H5 p=some (.lst ys)/\(∃ m',m' < m/\W (i + 1) m' (ys ++ [v]) σ2 (upd H5 p (.lst (ys ++ [v]))))
    else ∃ m',m' < m/\W (i + 1) m' ys σ2 H4):=by
 intro p hp
 refine ⟨fun i m ys σ' H'=>m=n - i/\i≤n/\ys.length≤i/\Pv p i ys σ' H'/\H' p=some (.lst ys),⟨n,by simp,Nat.zero_le _,Nat.zero_le _,hp0 p hp,uS⟩,?_⟩
 rintro i m ys σ' H' ⟨rfl,hi,hl,pv,hp'⟩
 have o:=hok p i ys σ' H' hp pv
 by_cases hlt:i < n
 ·refine .inr ⟨Y.go i H' hlt o,fun x H2 y=>hs p i ys σ' H' x H2 hp hlt hl pv hp' (Y.yld i H' x H2 hlt o y) _ _ (fun v σ2 H5 h5 pv5=>⟨by rw [sizeLine_eq]; omega,h5,n - (i + 1),by omega,rfl,hlt,by simp; omega,pv5,uS⟩) fun σ2 H4 h4 pv4=>⟨n - (i + 1),by omega,rfl,hlt,by omega,pv4,h4⟩⟩
 ·have e:i=n:=by omega
  subst e
  exact .inl ⟨Y.stop H' o,q p ys σ' H' hp pv hp' hl⟩
end
theorem qaF {K:PySem.W.Frag}{a:Addr}{xs:List V}:qcA (Itl K a) xs.length (fun i H x H'=>H'=H/\xs[i]?=some x) (fun H=>H a=some (.lst xs)) :=
 ⟨fun i H hi o=>⟨xs,xs[i],SqL.of o,by simp [hi]⟩,fun i H x H' hi o ⟨e,y⟩=>⟨e,y xs (SqL.of o)⟩,fun H o=>⟨xs,SqL.of o,Nat.le_refl _⟩⟩
theorem qdG {K:PySem.W.Frag}{a:Addr}{xs:List V}:qcA (Itt K a) xs.length (fun i H x H'=>H'=H/\xs[i]?=some x) (fun H=>H a=some (.tup xs)) :=
 ⟨fun i H hi o=>⟨xs,xs[i],SqT.of o,by simp [hi]⟩,fun i H x H' hi o ⟨e,y⟩=>⟨e,y xs (SqT.of o)⟩,fun H o=>⟨xs,SqT.of o,Nat.le_refl _⟩⟩
theorem qdH {lo:Int}{n:Nat}:qcA (Itr lo n) n (fun i H x H'=>H'=H/\x = .int (lo + i)) (fun _=>True) :=
 ⟨fun i H hi _=>hi,fun i H x H' hi _ y=>y,fun H _=>Nat.le_refl _⟩
theorem Inv.freezeT {X:Cx}{pins:List (Addr × Obj)}{σ:St}{H:Hp}{s:Shared}{d:Addr}{kvs:List (List Key × V)}(I:Inv X pins σ H s)(h:H d=some (.dT kvs)):∃ o,Inv X pins σ (upd H d (.frz o (.dT kvs))) s:=by
 obtain ⟨z,y,xs,r,o,es,ep,h1,h2⟩:=(show qaR X.prog X.w H s.heap d (.dT kvs) from I.hok d _ h)
 refine ⟨o,qb6 (t':=s.toks) I (by rw [h]; exact True.intro) ⟨rfl,fun _ _=>rfl⟩ ⟨o,h1⟩ ⟨h1,z,y,xs,KT.keeps r fun b ys e=>?_,o,es,ep,h1,h2⟩⟩
 rw [uE (qb2 e h (fun z=>nomatch z))]; exact e
theorem Inv.thawT {X:Cx}{pins:List (Addr × Obj)}{σ:St}{H:Hp}{s:Shared}{d:Addr}{o:Obj}{kvs:List (List Key × V)}(I:Inv X pins σ H s)(h:H d=some (.frz o (.dT kvs)))(hn:∀ o u,X.H₀ d≠some (.frz o u)):Inv X pins σ (upd H d (.dT kvs)) s:=by
 have ne:∀ {b:Addr} {u:HO},H b=some u->u ≠ .frz o (.dT kvs)->b≠d:=fun e z=>qb2 e h z
 have nd:∀ {b:Addr},H b=none->b≠d:=fun {b} e z=>by subst z; rw [h] at e; cases e
 have B:=I.base
 refine ⟨I.ok,I.os,I.bare,⟨B.keep,B.slot,fun b o' e n hx=>?_,B.there,fun b xs e=>?_,fun b o' u e=>?_,fun b ps e=>?_⟩,I.loc,I.cell,?_,fun x c e=>?_,fun p hp=>?_,fun b u e=>?_,I.len⟩
 ·have:=B.free b o' e n hx; rw [uE (nd this)]; exact this
 ·have:=B.tups b xs e; rw [uE (ne this (fun z=>nomatch z))]; exact this
 ·have:=B.frzs b o' u e
  rw [uE (fun z=>by subst z; exact hn o' u e)]; exact this
 ·obtain ⟨m,q⟩:=B.tbls b ps e
  exact ⟨m,by rw [uE (ne q (fun z=>nomatch z))]; exact q⟩
 ·rw [uE (nd I.free)]; exact I.free
 ·have:=I.freeC x c e; rw [uE (nd this)]; exact this
 ·obtain ⟨p1,p2,p3⟩:=I.pin p hp
  exact ⟨p1,by rw [uE (nd p2)]; exact p2,p3⟩
 ·have st:∀ {b:Addr} {u:HO},qaR X.prog X.w H s.heap b u->qaR X.prog X.w (upd H d (.dT kvs)) s.heap b u:=fun x =>
   x.stay (fun _ _ _ q=>q) (fun c q=>by rw [uE (ne q (fun z=>nomatch z))]; exact q) (fun c xs q=>by rw [uE (ne q (fun z=>nomatch z))]; exact q) fun c ob q=>by rw [uE (ne q (fun z=>by cases z))]; exact q
  by_cases hb:b=d
  ·subst hb; rw [uS] at e; cases e
   exact st (I.hok b _ h).2
  ·rw [uE hb] at e; exact st (I.hok b u e)
theorem Inv.notFrz {X:Cx}{pins:List (Addr × Obj)}{σ:St}{H:Hp}{s:Shared}{d:Addr}{kvs:List (List Key × V)}(I:Inv X pins σ H s)(h:H d=some (.dT kvs)):∀ o u,X.H₀ d≠some (.frz o u):=fun o u e=>by
 have:=I.base.frzs d o u e
 rw [h] at this; cases this
def sThaw (ts:TS):TS:=fun D σ H=>∃ d kvs,H d=some (.dT kvs)/\ts { D with nx:=fun σ' H'=>∃ o kvs',H' d=some (.frz o (.dT kvs'))/\D.nx σ' (upd H' d (.dT kvs')) } σ H
theorem qlK {X:Cx}{st:Stmt}{ts:TS}(h:PS X st ts):PS X st (sThaw ts):=by
 intro pins s σ H D I ⟨d,kvs,hd,q⟩
 have nf:=I.notFrz hd
 refine thn (h pins s σ H _ I q) fun f s1 q1=>?_
 cases f with
 | next =>
  obtain ⟨σ1,H1,I1,o,kvs',hz,q2⟩:=q1
  exact ⟨σ1,_,I1.thawT hz nf,q2⟩
 | cont=>exact q1
 | brk=>exact q1
 | ret v=>exact q1
def tThaw (te:TE):TE:=fun σ H Q=>∃ d kvs,H d=some (.dT kvs)/\te σ H fun v H'=>∃ o kvs',H' d=some (.frz o (.dT kvs'))/\Q v (upd H' d (.dT kvs'))
theorem qlN {X:Cx}{e:Expr}{te:TE}(h:PE X e te):PE X e (tThaw te):=by
 intro pins s σ H Q I ⟨d,kvs,hd,q⟩
 have nf:=I.notFrz hd
 refine thn (h pins s σ H _ I q) fun u s1 ⟨v,H1,I1,r1,o,kvs',hz,q2⟩=>?_
 exact ⟨v,_,I1.thawT hz nf,r1,q2⟩
def ItkT (d:Addr)(o:Obj):It :=
 ⟨fun i H=>∃ kvs kv,H d=some (.frz o (.dT kvs))/\kvs[i]?=some kv,fun i H v H'=>H'=H/\∃ b kv,v = .ref b/\H b=some (.tup (kv.1.map kV))/\∀ kvs,H d=some (.frz o (.dT kvs))->kvs[i]?=some kv,fun i H=>∃ kvs,H d=some (.frz o (.dT kvs))/\kvs.length≤i⟩
def ItiT (d:Addr)(o:Obj):It :=
 ⟨fun i H=>∃ kvs kv,H d=some (.frz o (.dT kvs))/\kvs[i]?=some kv,fun i H v H'=>∃ p b kv,v = .ref p/\H p=none/\H b=some (.tup (kv.1.map kV))/\H'=upd H p (.tup [.ref b,kv.2])/\∀ kvs,H d=some (.frz o (.dT kvs))->kvs[i]?=some kv,fun i H=>∃ kvs,H d=some (.frz o (.dT kvs))/\kvs.length≤i⟩
theorem Inv.entZ {X:Cx}{pins:List (Addr × Obj)}{σ:St}{H:Hp}{s:Shared}{d:Addr}{o:Obj}{kvs:List (List Key × V)}{es:Array DictEntry}{ep:Nat}(I:Inv X pins σ H s)(h:H d=some (.frz o (.dT kvs)))(ho:o.data = .dict es ep):DEnt s.heap d es ep/\EntT H kvs es:=by
 obtain ⟨g,z,y,xs,r,o',es',ep',h1,h2,h3,h4,h5⟩:=I.hok d _ h
 rw [g] at h1; cases h1
 rw [ho] at h3; cases h3
 refine ⟨⟨o,g,h2,ho⟩,?_⟩
 unfold EntT
 rw [h4]
 clear h4 h5 z h
 induction r with
 | nil=>exact .nil
 | @cons p q ps qs hq t ih=>exact .cons ⟨q.2.1,rfl,hq.2.1,hq.2.2⟩ ih
theorem qhf {P:Program}{w:World}{K:PySem.W.Frag}{tg:Expr}{it d:Addr}{o:Obj}{es:Array DictEntry}{ep:Nat}(hod:o.data = .dict es ep):Turn P w K tg (ItkT d o) [it] it (fun i h=>h.IsKeyIter it d i es.size ep) where
 mem:=by simp
 obj:=fun i h st b hb=>by
  obtain ⟨o,e,c,d⟩:=st
  rw [List.mem_singleton.mp hb]
  exact ⟨o,e,fun v z=>by rw [d] at z; cases z⟩
 keep:=fun i h h' st k=>st.at fun o e=>k it (by simp) o e
 item:=by
  intro X hP hw hK hc i pins s σ H E I hf st hg
  subst hP hw hK
  obtain ⟨kvs,kv,hH,hx⟩:=hg
  obtain ⟨de,en⟩:=I.entZ hH hod
  have li:i < es.size:=by rw [en.size]; exact (List.getElem?_eq_some_iff.mp hx).1
  obtain ⟨kv',b,w1,w2,w3,w4⟩:=en.at (Array.getElem?_eq_getElem li)
  rw [hx] at w1; cases w1
  obtain ⟨f0,f1,f2,f3,f4,f5⟩:=hf it (by simp)
  refine qgS st de li fun h' st' sb=>⟨_,rfl,?_⟩
  have I1:Inv X pins σ H { s with heap:=h' }:=I.turned (t':=s.toks) (fun b o hb e=>(sb.2 b hb).trans e) f0 f1 f3 f4 f5
  obtain ⟨oi,e,c,dd⟩:=id st'
  exact qkt (s:={ s with heap:=h' }) e c dd (by decide) ⟨.ref b,H,I1,by rw [w2]; rfl,⟨rfl,b,kv,rfl,w3,fun ks hk=>by rw [hH] at hk; cases hk; exact hx⟩,st',fun b hb=>(hf b hb).1⟩
 done:=by
  intro X hP hw hK hc i pins s σ H E I hf st hg
  subst hP hw hK
  obtain ⟨kvs,hH,hx⟩:=hg
  obtain ⟨de,en⟩:=I.entZ hH hod
  obtain ⟨f0,f1,f2,f3,f4,f5⟩:=hf it (by simp)
  exact qiT (I.ok.hd hc) st de (by rw [en.size]; exact hx) fun h' eb=>⟨rfl,I.turned (t':=s.toks) (fun b o hb e=>eb b o hb e) f0 f1 f3 f4 f5⟩
 self:=fun A i s Q E st h=>wpAny_pyIter_keyiter st h
theorem qfA {P:Program}{w:World}{K:PySem.W.Frag}{elts:List Expr}{c:Nat}{pos:Pos}{it d:Addr}{o:Obj}{es:Array DictEntry}{ep:Nat}(hod:o.data = .dict es ep):Turn P w K (.Tuple elts c pos) (ItiT d o) [it] it (fun i h=>ItAt h it d i es.size ep) where
 mem:=by simp
 obj:=fun i h st b hb=>by
  obtain ⟨_,_,_,_,e,_⟩:=st
  rw [List.mem_singleton.mp hb]
  exact ⟨_,e,fun v z=>by cases z⟩
 keep:=fun i h h' st k=>st.at fun o e=>k it (by simp) o e
 item:=by
  intro X hP hw hK hc i pins s σ H E I hf st hg
  subst hP hw hK
  obtain ⟨kvs,kv,hH,hx⟩:=hg
  obtain ⟨de,en⟩:=I.entZ hH hod
  have li:i < es.size:=by rw [en.size]; exact (List.getElem?_eq_some_iff.mp hx).1
  obtain ⟨kv',b,w1,w2,w3,w4⟩:=en.at (Array.getElem?_eq_getElem li)
  rw [hx] at w1; cases w1
  have lt:s.heap.objs.size≠it:=let ⟨_,_,_,_,e,_⟩:=st; Nat.ne_of_gt (Heap.lt_size e)
  refine qfe st de li fun h' st' T1 sz k1=>⟨_,rfl,?_⟩
  refine qmg (s:={ s with heap:=h' }) st' fun h2 st2 sb=>?_
  have T2:=(sb.2 _ lt).trans T1
  refine ⟨.ref s.heap.objs.size,upd H s.heap.objs.size (.tup [.ref b,kv.2]),I.turnedNew (t':=s.toks) hf (fun b u hb e=>(sb.2 _ (by simpa using hb)).trans (k1 b u (by simpa using hb) e)) (Nat.le_refl _) ⟨by show 2≤_; decide,[es[i].key,es[i].val],.cons (by rw [w2]; rfl) (.cons w4 .nil),_,T2,rfl,_,rfl,rfl⟩,rfl,⟨_,b,kv,rfl,I.hok.fresh (Nat.le_refl _),w3,rfl,fun ks hk=>by rw [hH] at hk; cases hk; exact hx⟩,st2,fun b hb=>?_⟩
  rw [List.mem_singleton.mp hb,uE (Ne.symm lt)]
  exact (hf it (by simp)).1
 done:=by
  intro X hP hw hK hc i pins s σ H E I hf st hg
  subst hP hw hK
  obtain ⟨kvs,hH,hx⟩:=hg
  obtain ⟨de,en⟩:=I.entZ hH hod
  exact qgX (I.ok.hd hc) st de (by rw [en.size]; exact hx) fun h' eb=>⟨rfl,I.turnedL (t':=s.toks) hf fun c o hc' q=>eb c o (by simpa using hc') q⟩
 self:=fun A i s Q E st h=>by
  obtain ⟨f0,f1,ok,ov,e,_⟩:=st
  have hT:s.TypeIs (.ref it) "dict_itemiterator" := ⟨_,e,rfl⟩
  refine wpAny_pyIter_slot hT F.slot_dict_itemiterator_iter (wpAny_call_entry F.slot_dict_itemiterator_iter hT qb5 ?_ (F.args_dict_itemiterator_iter_1 _))
  show wpAny _ _ (ret (.ref it)) _ _ s
  exact wpAny_pure ⟨_,rfl, "dict_itemiterator",_,hT,F.slot_dict_itemiterator_next.lookup,h⟩
def qnu (to:TE):TI:=fun σ H R=>to σ H fun x H1=>∃ d kvs,x = .ref d/\((H1 d=some (.dT kvs)/\∀ o,R (ItkT d o) (upd H1 d (.frz o (.dT kvs))))\/∃ o,H1 d=some (.frz o (.dT kvs))/\R (ItkT d o) H1)
def qmk (to:TE):TI:=fun σ H R=>to σ H fun x H1=>∃ d kvs,x = .ref d/\((H1 d=some (.dT kvs)/\∀ o,R (ItiT d o) (upd H1 d (.frz o (.dT kvs))))\/∃ o,H1 d=some (.frz o (.dT kvs))/\R (ItiT d o) H1)
theorem Inv.frozenT {X:Cx}{pins:List (Addr × Obj)}{σ:St}{H:Hp}{s:Shared}{d:Addr}{kvs:List (List Key × V)}{R:Obj->Hp->Prop}(I:Inv X pins σ H s)(q:(H d=some (.dT kvs)/\∀ o,R o (upd H d (.frz o (.dT kvs))))\/∃ o,H d=some (.frz o (.dT kvs))/\R o H) :
  ∃ o H2,Inv X pins σ H2 s/\H2 d=some (.frz o (.dT kvs))/\R o H2:=by
 rcases q with ⟨e,q⟩ | ⟨o,e,q⟩
 ·obtain ⟨o,I2⟩:=I.freezeT e
  exact ⟨o,_,I2,uS,q o⟩
 ·exact ⟨o,H,I,e,q⟩
theorem qj5 {X:Cx}{tg o:Expr}{to:TE}(ho:PE X o to):PI X tg o (qnu to):=by
 intro pins s σ H R I h
 refine thn (ho pins s σ H _ I h) fun v s1 ⟨x,H1,I1,r1,d,kvs,ex,q1⟩=>?_
 subst ex
 cases r1
 obtain ⟨ob,H2,I2,e2,q⟩:=I1.frozenT (R:=fun o H=>R (ItkT d o) H) q1
 obtain ⟨lo,z,nd,es,ep,⟨ob',g1,x1,d1⟩,en⟩:=I2.entT (.inr ⟨ob,e2⟩)
 obtain ⟨g2,_⟩:=I2.hok d _ e2
 rw [g2] at g1; cases g1
 refine qgT lo ⟨ob,g2,x1,d1⟩ ?_
 refine ⟨s1.heap.objs.size,[s1.heap.objs.size],_,_,H2,rfl,I2.kept (t':=s1.toks) fun b u e=>Heap.get?_push_of_some _ e,qhf d1,⟨_,Heap.get?_push_size _ rfl,rfl,rfl⟩,fun b hb=>?_,q⟩
 rw [List.mem_singleton.mp hb]
 exact I2.fpOk (Nat.le_refl _) (I2.hok.fresh (Nat.le_refl _))
theorem qiq {X:Cx}{elts:List Expr}{c:Nat}{tpos apos cpos:Pos}{o:Expr}{to:TE}(ho:PE X o to)(hbase:attributeBase o "items" X.env (eval o X.env)=eval o X.env:=by rfl)(hline:(apos.endLine == cpos.line)=true:=by rfl) :
  PI X (.Tuple elts c tpos) (.Call (.Attribute o "items" apos) [] [] cpos) (qmk to):=by
 intro pins s σ H R I h
 refine wpAny_Call_method0_late hbase hline (thn (ho pins s σ H _ I h) fun v s1 ⟨x,H1,I1,r1,d,kvs,ex,q1⟩=>?_)
 subst ex
 cases r1
 obtain ⟨ob,H2,I2,e2,q⟩:=I1.frozenT (R:=fun o H=>R (ItiT d o) H) q1
 obtain ⟨lo,z,nd,es,ep,⟨ob',g1,x1,d1⟩,en⟩:=I2.entT (.inr ⟨ob,e2⟩)
 obtain ⟨g2,_⟩:=I2.hok d _ e2
 rw [g2] at g1; cases g1
 have de:DEnt s1.heap d es ep:=⟨ob,g2,x1,d1⟩
 refine ⟨"dict", "dict.items",F.plainAttrs_dict,F.slot_dict_items,F.type_dict_items,de.ty,(fun b e=>by cases e; exact ⟨ob,g2,x1.2.1⟩),Calls.callWith_builtin rfl (PySem.evalArgs_none ?_)⟩
 refine call_meetsIn F.slot_dict_items de.ty F.entry_dict_items (F.args_dict_items_1 _) (qdI lo) ⟨⟨es,ep,de⟩,?_⟩
 have I3:Inv X pins σ H2 { s1 with heap:=s1.heap.push { cls := .type "dict_items",data := .fields #[.ref d] } }:=I2.kept (t':=s1.toks) fun b u e=>Heap.get?_push_of_some _ e
 show wpAny _ _ (pyIter (.ref s1.heap.objs.size)) _ _ { s1 with heap:=s1.heap.push { cls := .type "dict_items",data := .fields #[.ref d] } }
 refine qff (s:={ s1 with heap:=s1.heap.push { cls := .type "dict_items",data := .fields #[.ref d] } }) ⟨_,Heap.get?_push_size _ rfl,rfl,rfl⟩ (de.at fun o e=>Heap.get?_push_of_some _ e) fun h' ii k'=>?_
 refine ⟨_,[(s1.heap.push { cls := .type "dict_items",data := .fields #[.ref d] }).objs.size],_,_,H2,rfl,I3.kept (t':=s1.toks) k',qfA d1,⟨_,_,_,_,ii,.inl rfl⟩,fun b hb=>?_,q⟩
 rw [List.mem_singleton.mp hb]
 exact I3.fpOk (Nat.le_refl _) (I3.hok.fresh (Nat.le_refl _))
theorem qeE {d:Addr}{o:Obj}{kws:List (List Int × V)}:qcA (ItkT d o) kws.length (fun i H x H'=>H'=H/\∃ b kw,x = .ref b/\H b=some (.tup (iv kw.1))/\kws[i]?=some kw) (fun H=>H d=some (.frz o (.dT (kws.map kI)))) :=
 ⟨fun i H hi h=>⟨_,kI kws[i],h,by simp [hi]⟩,fun i H x H' hi h ⟨e,b,kv,e1,e2,e3⟩=>by
  have:=e3 _ h
  rw [List.getElem?_map,Option.map_eq_some_iff] at this
  obtain ⟨kw,h1,h2⟩:=this
  subst h2
  exact ⟨e,b,kw,e1,qcp e2,h1⟩,fun H h=>⟨_,h,by simp⟩⟩
theorem qd3 {d:Addr}{o:Obj}{kws:List (List Int × V)}:qcA (ItiT d o) kws.length (fun i H x H'=>∃ p b kw,x = .ref p/\H p=none/\H b=some (.tup (iv kw.1))/\H'=upd H p (.tup [.ref b,kw.2])/\kws[i]?=some kw) (fun H=>H d=some (.frz o (.dT (kws.map kI)))) :=
 ⟨fun i H hi h=>⟨_,kI kws[i],h,by simp [hi]⟩,fun i H x H' hi h ⟨p,b,kv,e1,e2,e3,e4,e5⟩=>by
  have:=e5 _ h
  rw [List.getElem?_map,Option.map_eq_some_iff] at this
  obtain ⟨kw,h1,h2⟩:=this
  subst h2
  exact ⟨p,b,kw,e1,e2,qcp e3,e4,h1⟩,fun H h=>⟨_,h,by simp⟩⟩
end L2
namespace L2
open PySem PySem.Spec PyProof.Rows
end L2
namespace L2
open PySem PySem.W PySem.Spec PyProof.Rows DI Srt
def qbn (kvs more:List (List Key × V)):List (List Key × V):=more.foldl (fun acc kv=>putK acc kv.1 kv.2) kvs
theorem qcm:∀ (more kvs:List (List Key × V)),(qbn kvs more).length≤kvs.length + more.length
 | [],kvs=>by show kvs.length≤kvs.length + 0; omega
 | p :: r,kvs=>by
  have h1:=qcm r (putK kvs p.1 p.2)
  have h2:=qbo kvs p.1 p.2
  show (qbn (putK kvs p.1 p.2) r).length≤_
  rw [List.length_cons]; omega
theorem qb3 (kvs more:List (List Key × V))(kv:List Key × V):qbn kvs (more ++ [kv])=putK (qbn kvs more) kv.1 kv.2:=by unfold qbn; rw [List.foldl_append]; rfl
abbrev qkN (H:Hp)(ys:List V)(kvs:List (List Key × V)):Prop:=Paired (fun v (kv:List Key × V)=>∃ a b,v = .ref a/\H a=some (.tup [.ref b,kv.2])/\H b=some (.tup (kv.1.map kV))) ys kvs
section
variable {X:Cx}{pins:List (Addr × Obj)}{σ:St}{A:Around}{R:Result->Shared->Prop}{it l d:Addr}{ys:List V}{kvs:List (List Key × V)}{H:Hp}
theorem qhF (hh:A.in1.handled=none)(hu:A.in1.units < cLine)(hl:H l=some (.lst ys))(hk:qkN H ys kvs)(hz:ys.length≤1000)(hdn:H d=none)
  (fin:∀ s',Inv X pins σ (upd H d (.dT (qbn [] kvs))) s'->R (.ok (.ret .none)) s') :
  ∀ (k i:Nat) (j:Int) (s:Shared),ys.length - i=k->i≤ys.length->s.heap.IsListIter it l i->Inv X pins σ (upd H d (.dT (qbn [] (kvs.take i)))) s->FpOk X pins (upd H d (.dT (qbn [] (kvs.take i)))) it ->
   codeAny (model X.prog X.w) A (.builtin "dict.update.loop" ⟨[.ref d,.ref it,rawInt j,.none],[]⟩) R s:=by
 intro k
 have hlen:kvs.length=ys.length:=(Paired.length hk).symm
 have nd:∀ {b:Addr} {o u:HO},H b=some o->upd H d u b=some o:=fun {b o u} e=>by rw [uE (qab e hdn)]; exact e
 induction k with
 | zero =>
  intro i j s hk' hi st I f
  have hin:i=ys.length:=by omega
  subst hin
  refine codeAny_builtin PySem.F.entry_dict_update_loop ?_
  rw [Around.under_plainId PySem.F.plain_dict_update_loop _]
  show wpAny _ A.in1 (pyNext (.ref it) >>= _) _ _ s
  obtain ⟨its,rv,p,_⟩:=I.list (SqL.of (K:=X.K) (nd hl))
  have hil:=rv.length
  refine wpAny_bind (wpAny_pyNext_list_end hh st p.isList (by simp; omega) fun h' eb=>wpAny_bind (wpAny_pure (wpAny_pure ?_)))
  have e:kvs.take ys.length=kvs:=by rw [<- hlen,List.take_length]
  rw [e] at I
  exact fin _ (I.turned (t':=s.toks) (fun b o hb e=>eb b o hb e) (by rw [e] at f; exact f.1) f.2.1 f.2.2.2.1 f.2.2.2.2.1 f.2.2.2.2.2)
 | succ k ih =>
  intro i j s hk' hi st I f
  have hlt:i < ys.length:=by omega
  refine codeAny_builtin PySem.F.entry_dict_update_loop ?_
  rw [Around.under_plainId PySem.F.plain_dict_update_loop _]
  show wpAny _ A.in1 (pyNext (.ref it) >>= _) _ _ s
  obtain ⟨its,rv,p,_⟩:=I.list (SqL.of (K:=X.K) (nd hl))
  have hyi:ys[i]?=some ys[i]:=List.getElem?_eq_getElem hlt
  obtain ⟨u,hu',ru⟩:=rv.get hyi
  refine wpAny_bind (wpAny_pyNext_list_item st p.isList (x:=u) (by simpa using hu') fun h' st' sb=>?_)
  have I1:Inv X pins σ (upd H d (.dT (qbn [] (kvs.take i)))) { s with heap:=h' }:=I.turned (t':=s.toks) (fun b o hb e=>(sb.2 b hb).trans e) f.1 f.2.1 f.2.2.2.1 f.2.2.2.2.1 f.2.2.2.2.2
  obtain ⟨kv,hkv,a,b,ea,ha,hb⟩:=qah hk hyi
  rw [ea] at ru
  cases ru
  obtain ⟨us,r2,tu,_⟩:=I1.tuple (SqT.of (K:=X.K) (nd (u := .dT (qbn [] (kvs.take i))) ha))
  cases r2 with
  | cons rk rr=>cases rr with
   | cons rv' rr =>
    cases rr; cases rk
    rename_i uv
    obtain ⟨⟨cls,dct,dat,sl⟩,ho,hc,n,hdd⟩:=id tu
    simp only at hc hdd
    subst hc hdd
    dsimp only
    refine wpAny_bind (wpAny_holding (wpAny_bind (wpAny_tryCatch ?_)))
    unfold Builtin.Dict.pairItems
    refine wpAny_bind (wpAny_typeOf (s:={ s with heap:=h' }) ⟨_,ho,rfl⟩ ?_)
    rw [if_pos (by decide)]
    refine wpAny_bind (wpAny_seqItems ho rfl (wpAny_pure ?_))
    show wpAny _ _ (holding [.ref b,uv] (dictSet d (.ref b) uv)) _ _ _
    obtain ⟨z,hd,xs,rel,dd⟩:=qkE I1.hok (uS (H:=H) (a:=d))
    have hxl:xs.length≤sizeLine:=by rw [<- Paired.length rel]; exact z
    have ekey:(kvs.take (i + 1))=kvs.take i ++ [kv]:=by
     rw [List.take_succ,hkv]; rfl
    refine wpAny_holding (wpAny_dictSet_heap (knd:=tupleKind (qau X.prog X.w)) hu (qdq I1.hok (nd hb)) dd (fun h2 dd' hs=>?_) hxl)
    obtain ⟨qo,es,ep,hq,h2',h3,h4,_,h5⟩:=dd'
    have hml:=qcm (kvs.take (i + 1)) []
    have I2:Inv X pins σ (upd H d (.dT (qbn [] (kvs.take (i + 1))))) { s with heap:=h2,toks:=s.toks + (tupleKind (qau X.prog X.w)).draws kv.1 }:=by
     have:=qb6 (t':=s.toks + (tupleKind (qau X.prog X.w)).draws kv.1) (ob := .dT (putK (qbn [] (kvs.take i)) kv.1 kv.2)) I1 (by rw [uS]; exact True.intro) hs ⟨qo,hq⟩ ⟨?_,hd,_,(rel.put kv.1 (nd hb) rv').keeps fun c ys ec=>?_,qo,es,ep,hq,h2',h3,h4,h5⟩
     ·rw [qd5] at this
      rw [ekey,qb3]; exact this
     ·rw [<- qb3,<- ekey]
      rw [List.length_take,List.length_nil] at hml
      rw [sizeLine_eq]; omega
     ·have hc:c≠d:=by intro z; subst z; rw [uS] at ec; cases ec
      rw [uE hc]; exact ec
    refine wpAny_pure ⟨plainId_quiet PySem.F.plain_dict_update_loop _,ih (i + 1) _ _ (by omega) hlt ?_ I2 ?_⟩
    ·have hid:it≠d:=by intro z; subst z; have:=f.1; rw [uS] at this; cases this
     exact st'.at fun o e=>hs.extBut it o hid e
    ·have hid:it≠d:=by intro z; subst z; have:=f.1; rw [uS] at this; cases this
     exact ⟨by rw [uE hid]; have:=f.1; rwa [uE hid] at this,f.2⟩
theorem qd0 (hc:X.calm=true)(hu:X.A.units + 3 < cLine):qb8 X (.type "dict") (fun xs H Q=>∃ (l:Addr) (ys:List V) (kvs:List (List Key × V)),xs=[.ref l]/\H l=some (.lst ys)/\qkN H ys kvs/\ys.length≤1000/\∀ p,H p=none->Q (.ref p) (upd H p (.dT (qbn [] kvs)))):=by
 intro pins s σ H xs us Q I r h
 obtain ⟨l,ys,kvs,rfl,hl,hk,hz,q⟩:=h
 obtain ⟨u,rfl,rx⟩:=vals1 r
 cases rx
 have hn:=I.hok.fresh (Nat.le_refl s.heap.objs.size)
 refine callType_codes (Q₁:=fun obj s₁=>obj = .ref s.heap.objs.size/\s₁={ s with heap:=s.heap.push { cls := .type "dict",data := .dict #[] } }) PySem.F.kt_called_dict (PySem.F.kt_typeCall_dict_1 _) PySem.F.entry_dict_init (kt_code_dict_new _ ⟨rfl,rfl⟩) ?_
 rintro obj s₁ ⟨rfl,rfl⟩
 have I1:=I.laid (a:=s.heap.objs.size) (o := .dT []) (h':=s.heap.push { cls := .type "dict",data := .dict #[] }) (t':=s.toks) (fun _ _ q=>Heap.get?_push_of_some _ q) (Nat.le_refl _) (qey s.heap I.big)
 have hT0:Shared.TypeIs { s with heap:=s.heap.push { cls := .type "dict",data := .dict #[] } } (.ref s.heap.objs.size) "dict" := ⟨_,Heap.get?_push_size _ rfl,rfl⟩
 obtain ⟨_,its,n,rv,ho⟩:=(show qaR X.prog X.w H s.heap l (.lst ys) from I.hok l _ hl)
 have ho':(s.heap.push { cls := .type "dict",data := .dict #[] }).get? l=some { cls := .type "list",data := .seq its.toArray n }:=Heap.get?_push_of_some _ ho
 refine ⟨hT0,PySem.F.args_dict_init_2 _ _,?_⟩
 unfold Builtin.«dict.__init__»
 refine wpAny_bind ?_
 unfold Builtin.Dict.selfAndRest
 refine wpAny_bind (wpAny_notOrdered_dict hT0 ?_)
 show wpAny _ _ (pure (s.heap.objs.size,[Value.ref l])) _ _ _
 refine wpAny_pure ?_
 show wpAny _ _ (Builtin.Dict.updateFrom "dict.__init__" s.heap.objs.size (.ref l) [] .none) _ _ _
 unfold Builtin.Dict.updateFrom
 refine wpAny_bind (wpAny_typeOf ⟨_,ho',rfl⟩ ?_)
 rw [if_pos (by decide)]
 refine wpAny_bind (qe6 ho' rfl rfl rfl (by simpa using I.ok.hd hc) fun h1 tk1 k1=>?_)
 simp only [Option.isNone_none,if_true]
 refine wpAny_bind (wpAny_rule ?_)
 have I2:Inv X pins σ (upd H s.heap.objs.size (.dT [])) { s with heap:=h1,toks:=tk1 }:=I1.kept (t':=tk1) k1
 refine wpAny_bind (wpAny_pyIter_list (items:=its.toArray) ⟨_,k1 _ _ ho',rfl,n,rfl⟩ (wpAny_pure ⟨plainId_quiet PySem.F.plain_dict_update_loop _,?_⟩))
 refine qhF (X:=X) (pins:=pins) (σ:=σ) (H:=H) (ys:=ys) (kvs:=kvs) (l:=l) (by simpa using I.ok.hd hc) (by show X.A.units + 1 + 1 < cLine; omega) hl hk hz hn (fun s' I'=>⟨rfl,.ref s.heap.objs.size,_,I',rfl,q _ hn⟩) (ys.length - 0) 0 0 _ (by omega) (Nat.zero_le _) ⟨_,Heap.get?_push_size _ rfl,rfl,rfl⟩ (I2.kept (t':=tk1) fun b o e=>Heap.get?_push_of_some _ e) ?_
 exact I2.fpOk (Nat.le_refl _) (I2.hok.fresh (Nat.le_refl _))
end
end L2
namespace L2
open PySem PySem.Spec PyProof.Rows Srt
abbrev Mp:=List (List Int × Int)
def kII (p:List Int × Int):List Key × V:=(p.1.map Sum.inl,.int p.2)
def dI (m:Mp):HO := .dT (m.map kII)
def hasM (m:Mp)(k:List Int):Bool:=m.any fun p=>decide (p.1=k)
def getM (m:Mp)(k:List Int):Int:=((m.find? fun p=>decide (p.1=k)).map (·.2)).getD 0
def putM (m:Mp)(k:List Int)(v:Int):Mp:=if hasM m k=true then m.map (fun p=>if p.1=k then (p.1,v) else p) else m ++ [(k,v)]
def qac (m:Mp):List (List Int):=m.map (·.1)
def addM (m:Mp)(r:List Int × Int):Mp:=putM m r.1 (getM m r.1 + r.2)
def gath (rows:Mp):Mp:=rows.foldl addM []
theorem qds {a b:List Int}:a.map (Sum.inl:Int->Key)=b.map Sum.inl↔a=b:=List.map_inj_right fun _ _ e=>Sum.inl.inj e
theorem qmv (a b:List Int):decide (a.map (Sum.inl:Int->Key)=b.map Sum.inl)=decide (a=b):=by
 by_cases e:a=b
 ·subst e; simp
 ·rw [decide_eq_false e,decide_eq_false (fun z=>e (qds.mp z))]
theorem qnM (m:Mp)(k:List Int):((m.map kII).any fun kv=>decide (kv.1=k.map Sum.inl))=hasM m k:=by
 unfold hasM
 rw [List.any_map]
 congr 1
 funext p
 exact qmv p.1 k
theorem qfL (m:Mp)(k:List Int)(v:Int):putK (m.map kII) (k.map Sum.inl) (.int v)=(putM m k v).map kII:=by
 unfold putK putM
 rw [qnM]
 by_cases h:hasM m k=true
 ·rw [if_pos h,if_pos h,List.map_map,List.map_map]
  refine List.map_congr_left fun p _=>?_
  by_cases e:p.1=k
  ·simp [kII,e]
  ·simp [kII,e,qds]
 ·rw [if_neg h,if_neg h,List.map_append]; rfl
theorem qfz:∀ (m:Mp) (k:List Int),valV (m.map kII) (k.map Sum.inl)=(m.find? fun p=>decide (p.1=k)).map fun p=>V.int p.2
 | [],_=>rfl
 | p :: m,k=>by
  rw [List.map_cons,List.find?_cons]
  by_cases e:p.1=k
  ·rw [qca (by simp [kII,e]),decide_eq_true e]; rfl
  ·rw [qcb (by simp [kII,qds,e]),decide_eq_false e]; exact qfz m k
theorem qeI (m:Mp)(k:List Int):(valV (m.map kII) (k.map Sum.inl)).getD (.int 0) = .int (getM m k):=by
 rw [qfz]; unfold getM
 cases m.find? fun p=>decide (p.1=k) <;> rfl
theorem qbQ {m:Mp}{k:List Int}:hasM m k=true↔k∈qac m:=by
 unfold hasM qac
 rw [List.any_eq_true,List.mem_map]
 simp
theorem qeH {m:Mp}{k:List Int}(h:k∈qac m):valV (m.map kII) (k.map Sum.inl)=some (.int (getM m k)):=by
 rw [qfz]; unfold getM
 cases e:m.find? fun p=>decide (p.1=k) with
 | some p=>rfl
 | none =>
  obtain ⟨p,hp,rfl⟩:=List.mem_map.mp h
  have:=List.find?_eq_none.mp e p hp
  simp at this
theorem qkw (k:List Int):getM [] k=0:=rfl
theorem qaJ (p:List Int × Int)(m:Mp)(k:List Int):getM (p :: m) k=if p.1=k then p.2 else getM m k:=by
 unfold getM
 rw [List.find?_cons]
 by_cases e:p.1=k
 ·rw [decide_eq_true e,if_pos e]; rfl
 ·rw [decide_eq_false e,if_neg e]
theorem qdu {m:Mp}{k:List Int}(h:k ∉ qac m):getM m k=0:=by
 induction m with
 | nil=>rfl
 | cons p m ih =>
  rw [qaJ,if_neg (fun e=>h (by simp [qac,e])),ih fun z=>h (by simp only [qac,List.map_cons,List.mem_cons] at *; exact .inr z)]
theorem qbf {m:Mp}(nd:(qac m).Nodup){p:List Int × Int}(h:p∈m):getM m p.1=p.2:=by
 induction m with
 | nil=>cases h
 | cons q m ih =>
  rw [qaJ]
  simp only [qac,List.map_cons,List.nodup_cons] at nd
  rcases List.mem_cons.mp h with rfl | h
  ·rw [if_pos rfl]
  ·rw [if_neg (fun e=>nd.1 (by rw [e]; exact List.mem_map_of_mem h)),ih nd.2 h]
theorem qgR (m:Mp)(k:List Int)(v:Int):qac (putM m k v)=if hasM m k=true then qac m else qac m ++ [k]:=by
 unfold putM
 by_cases h:hasM m k=true
 ·rw [if_pos h,if_pos h]
  unfold qac
  rw [List.map_map]
  refine List.map_congr_left fun p _=>?_
  by_cases e:p.1=k <;> simp [e]
 ·rw [if_neg h,if_neg h]; simp [qac]
theorem qfb {m:Mp}{k j:List Int}{v:Int}:j∈qac (putM m k v)↔j∈qac m\/j=k:=by
 rw [qgR]
 by_cases h:hasM m k=true
 ·rw [if_pos h]
  exact ⟨.inl,fun z=>z.elim id fun e=>by rw [e]; exact qbQ.mp h⟩
 ·rw [if_neg h]; simp
theorem qiH {m:Mp}{k:List Int}{v:Int}(h:(qac m).Nodup):(qac (putM m k v)).Nodup:=by
 rw [qgR]
 by_cases e:hasM m k=true
 ·rw [if_pos e]; exact h
 ·rw [if_neg e]
  refine List.nodup_append.mpr ⟨h,by simp,fun x hx y hy z=>?_⟩
  rw [List.mem_singleton] at hy
  subst hy z
  exact e (qbQ.mpr hx)
theorem qfh (m:Mp)(k j:List Int)(v:Int):getM (m.map fun p=>if p.1=k then (p.1,v) else p) j=if j=k/\hasM m k=true then v else getM m j:=by
 induction m with
 | nil=>simp [hasM,qkw]
 | cons p m ih =>
  rw [List.map_cons,qaJ,qaJ,ih]
  have hh:hasM (p :: m) k=(decide (p.1=k) || hasM m k):=rfl
  rw [hh]
  by_cases e:p.1=k
  ·rw [if_pos e,decide_eq_true e]
   by_cases ej:p.1=j
   ·rw [if_pos ej,if_pos ⟨ej.symm.trans e,rfl⟩]
   ·have:j≠k:=fun z=>ej (e.trans z.symm)
    rw [if_neg ej,if_neg (fun z=>this z.1),if_neg (fun z=>this z.1),if_neg ej]
  ·rw [if_neg e,decide_eq_false e,Bool.false_or]
   by_cases ej:p.1=j
   ·have:j≠k:=fun z=>e (ej.trans z)
    rw [if_pos ej,if_neg (fun z=>this z.1),if_pos ej]
   ·rw [if_neg ej,if_neg ej]
theorem qi6 (m:Mp)(k j:List Int)(v:Int)(h:k ∉ qac m):getM (m ++ [(k,v)]) j=if j=k then v else getM m j:=by
 induction m with
 | nil =>
  rw [List.nil_append,qaJ]
  by_cases e:k=j
  ·rw [if_pos e,if_pos e.symm]
  ·rw [if_neg e,if_neg (fun z=>e z.symm)]
 | cons p m ih =>
  rw [List.cons_append,qaJ,qaJ,ih fun z=>h (by simp only [qac,List.map_cons,List.mem_cons] at *; exact .inr z)]
  by_cases ej:p.1=j
  ·have:j≠k:=fun z=>h (by simp [qac,ej.trans z])
   rw [if_pos ej,if_pos ej,if_neg this]
  ·rw [if_neg ej,if_neg ej]
theorem qkv (m:Mp)(k j:List Int)(v:Int):getM (putM m k v) j=if j=k then v else getM m j:=by
 unfold putM
 by_cases h:hasM m k=true
 ·rw [if_pos h,qfh]
  by_cases e:j=k <;> simp [e,h]
 ·rw [if_neg h,qi6 _ _ _ _ fun z=>h (qbQ.mpr z)]
def qeM (rows:Mp)(k:List Int):Int:=(rows.map fun r=>if r.1=k then r.2 else 0).sum
def qap (m:Mp):List Int:=m.map (·.2)
theorem qjK {m:Mp}(nd:(qac m).Nodup)(k:List Int)(v:Int):(qap (putM m k (getM m k + v))).sum=(qap m).sum + v:=by
 unfold putM
 by_cases h:hasM m k=true
 ·rw [if_pos h]
  have hk:∀ (m:Mp),(qac m).Nodup->k∈qac m->(qap (m.map fun p=>if p.1=k then (p.1,getM m k + v) else p)).sum=(qap m).sum + v:=by
   intro m
   have gen:∀ (m:Mp) (g:Int),(qac m).Nodup->(k∈qac m->g=getM m k)->(qap (m.map fun p=>if p.1=k then (p.1,g + v) else p)).sum=(qap m).sum + if k∈qac m then v else 0:=by
    intro m g
    induction m with
    | nil=>intro _ _; simp [qap,qac]
    | cons p m ih =>
     intro nd hg
     simp only [qac,List.map_cons,List.nodup_cons] at nd
     have hk':k∈qac (p :: m)↔k=p.1\/k∈qac m:=by simp [qac]
     by_cases e:p.1=k
     ·have hnk:k ∉ qac m:=by rw [<- e]; exact nd.1
      have hgv:g=p.2:=by rw [hg (hk'.mpr (.inl e.symm)),qaJ,if_pos e]
      have:=ih nd.2 (fun z=>absurd z hnk)
      rw [if_neg hnk] at this
      simp only [qap,List.map_cons,List.sum_cons] at this ⊢
      rw [if_pos e,if_pos (hk'.mpr (.inl e.symm))]
      rw [this,hgv]; omega
     ·have:=ih nd.2 (fun z=>by rw [hg (hk'.mpr (.inr z)),qaJ,if_neg e])
      simp only [qap,List.map_cons,List.sum_cons] at this ⊢
      rw [if_neg e,this]
      by_cases z:k∈qac m
      ·rw [if_pos z,if_pos (hk'.mpr (.inr z))]; omega
      ·rw [if_neg z,if_neg (fun q=>(hk'.mp q).elim (fun r=>e r.symm) z)]; omega
   intro nd hm
   have:=gen m (getM m k) nd fun _=>rfl
   rwa [if_pos hm] at this
  exact hk m nd (qbQ.mp h)
 ·rw [if_neg h]
  rw [qdu fun z=>h (qbQ.mpr z)]
  simp [qap]
theorem qct (rows:Mp)(r:List Int × Int):gath (rows ++ [r])=addM (gath rows) r:=by unfold gath; rw [List.foldl_append]; rfl
theorem qhl (rows:Mp)(r:List Int × Int)(k:List Int):qeM (rows ++ [r]) k=qeM rows k + if r.1=k then r.2 else 0:=by unfold qeM; simp
theorem qcu:∀ (n:Nat) (rows:Mp),rows.length=n->(qac (gath rows)).Nodup/\(∀ k,getM (gath rows) k=qeM rows k)/\(∀ k,k∈qac (gath rows)↔k∈qac rows)/\(qap (gath rows)).sum=(qap rows).sum
 | 0,rows,h=>by
  have:rows=[]:=List.length_eq_zero_iff.mp h
  subst this
  exact ⟨List.nodup_nil,fun _=>rfl,fun _=>Iff.rfl,rfl⟩
 | n + 1,rows,h=>by
  obtain ⟨l,r,rfl⟩:∃ l r,rows=l ++ [r]:=by
   rcases List.eq_nil_or_concat rows with e | ⟨l,r,e⟩
   ·subst e; simp at h
   ·exact ⟨l,r,by rw [e,List.concat_eq_append]⟩
  obtain ⟨h1,h2,h3,h4⟩:=qcu n l (by simpa using h)
  rw [qct]
  refine ⟨qiH h1,fun k=>?_,fun k=>?_,?_⟩
  ·unfold addM
   rw [qkv,qhl,h2,h2]
   by_cases e:k=r.1
   ·subst e; rw [if_pos rfl,if_pos rfl]
   ·rw [if_neg e,if_neg (fun z=>e z.symm)]; omega
  ·unfold addM
   rw [qfb,h3]
   simp [qac,or_comm]
  ·unfold addM
   rw [qjK h1,h4]
   simp [qap]
theorem qbR (rows:Mp):(qac (gath rows)).Nodup:=(qcu _ rows rfl).1
theorem qkx (rows:Mp)(k:List Int):getM (gath rows) k=qeM rows k:=(qcu _ rows rfl).2.1 k
theorem qbp (rows:Mp)(k:List Int):k∈qac (gath rows)↔k∈qac rows:=(qcu _ rows rfl).2.2.1 k
theorem qg2 (rows:Mp):(qap (gath rows)).sum=(qap rows).sum:=(qcu _ rows rfl).2.2.2
theorem qjS {a b:List Int}(h:a.Perm b):a.sum=b.sum:=by
 induction h with
 | nil=>rfl
 | cons x _ ih=>simp [ih]
 | swap x y l=>simp; omega
 | trans _ _ h1 h2=>exact h1.trans h2
def tot (m:Mp)(f:List Int->Int):Int:=(m.map fun p=>p.2 * f p.1).sum
theorem qjO {m:Mp}(nd:(qac m).Nodup)(f:List Int->Int):tot m f=((qac m).map fun k=>getM m k * f k).sum:=by
 unfold tot qac
 rw [List.map_map]
 congr 1
 refine List.map_congr_left fun p hp=>?_
 show _=getM m p.1 * f p.1
 rw [qbf nd hp]
theorem qfC (l:List Int)(c:Int):(l.map fun a=>a * c).sum=l.sum * c:=by
 induction l with
 | nil=>simp
 | cons a l ih=>simp [ih,Int.add_mul]
def qaz (m:Mp)(g:List Int->Mp):Mp:=m.flatMap fun p=>(g p.1).map fun q=>(q.1,p.2 * q.2)
theorem qfD {α:Type}(l:List α)(f:α->List Int):(l.flatMap f).sum=(l.map fun a=>(f a).sum).sum:=by
 induction l with
 | nil=>rfl
 | cons a l ih=>rw [List.flatMap_cons,List.sum_append,List.map_cons,List.sum_cons,ih]
theorem qbw {m:Mp}{g:List Int->Mp}{k:List Int}:k∈qac (qaz m g)↔∃ l∈qac m,k∈qac (g l):=by
 unfold qac qaz
 simp only [List.map_flatMap,List.mem_flatMap,List.map_map,List.mem_map]
 constructor
 ·rintro ⟨p,hp,q,hq,rfl⟩; exact ⟨p.1,⟨p,hp,rfl⟩,q,hq,rfl⟩
 ·rintro ⟨_,⟨p,hp,rfl⟩,q,hq,rfl⟩; exact ⟨p,hp,q,hq,rfl⟩
theorem qhS (m:Mp)(g:List Int->Mp):(qap (qaz m g)).sum=tot m fun l=>(qap (g l)).sum:=by
 unfold qap qaz tot
 rw [List.map_flatMap,qfD]
 congr 1
 refine List.map_congr_left fun p _=>?_
 rw [List.map_map,Int.mul_comm,<- qfC,List.map_map]
 congr 1
 exact List.map_congr_left fun q _=>Int.mul_comm _ _
theorem qhZ {m:Mp}{f:List Int->Int}{c:Int}(h:∀ k∈qac m,f k=c):tot m f=(qap m).sum * c:=by
 unfold tot qap
 rw [<- qfC,List.map_map]
 congr 1
 exact List.map_congr_left fun p hp=>by rw [h p.1 (List.mem_map_of_mem hp)]; rfl
def rise (ks:List (List Int)):List (List Int):=ks.mergeSort fun a b=>!lexI b a
theorem qef {a b:List (List Int)}(h:a.Perm b)(ha:qcY a)(hb:qcY b):a=b :=
 List.Perm.eq_of_pairwise (le:=fun x y=>lexI y x=false) (fun x y _ _ h1 h2=>qgO x y h2 h1) ha hb h
theorem qaS (ks:List (List Int)):(rise ks).Perm ks:=List.mergeSort_perm ks _
theorem qfG (ks:List (List Int)):qcY (rise ks):=by
 have:=List.pairwise_mergeSort (le:=fun a b=>!lexI b a) (fun a b c h1 h2=>by simp at *; exact qf0 _ _ _ h1 h2) (fun a b=>by
  cases h:lexI b a with
  | false=>simp
  | true=>simp [qdn _ _ h]) ks
 exact this.imp fun {a b} h=>by simpa using h
theorem qfH {ms ks:List (List Int)}(h:ms.Perm ks)(hr:qcY ms):ms=rise ks:=qef (h.trans (qaS ks).symm) hr (qfG ks)
theorem qla {A:Around}{k:Nat}(hr:Room k A):A.units + 2 < cLine:=by have:=hr.un; omega
theorem qk9 {A:Around}{k:Nat}(hr:Room k A):A.units + 3 < cLine:=by have:=hr.un; omega
theorem DGet.tz {H:Hp}{a b:Addr}{kvs:List (List Key × V)}{k:List Key}(e:Rd H a (.dT kvs))(eb:H b=some (.tup (k.map kV))):DGet H a (.ref b) (valV kvs k) := .inr ⟨kvs,k,b,e,rfl,eb,rfl⟩
def qmM (tk tv:TE):TE:=fun σ H Q=>∀ p,H p=none->tk σ (upd H p (.dT [])) fun x H1=>tv σ H1 fun y H2=>∃ (b:Addr) (key:List Key),x = .ref b/\H2 b=some (.tup (key.map kV))/\H2 p=some (.dT [])/\Q (.ref p) (upd H2 p (.dT [(key,y)]))
theorem qit {X:Cx}{pos:Pos}{k v:Expr}{tk tv:TE}(hu:X.A.units + 1 < cLine)(hk:PE X k tk)(hv:PE X v tv):PE X (.Dict [some k] [v] pos) (qmM tk tv):=by
 intro pins s σ H Q I q
 have hn:=I.hok.fresh (Nat.le_refl s.heap.objs.size)
 have I1:=I.laid (a:=s.heap.objs.size) (o := .dT []) (h':=s.heap.push { cls := .type "dict",data := .dict #[] }) (t':=s.toks) (fun _ _ q=>Heap.get?_push_of_some _ q) (Nat.le_refl _) (qey s.heap I.big)
 rw [arm_eval_Dict,zip_pairTrees [some k] [v] X.env pos rfl rfl,dictDisplay_pairs (pairTrees [some k] [v] X.env pos) (by intro z; cases z) (by show 1 < 17; decide)]
 refine wpAny_bind (wpAny_standAt (wpAny_bind ?_))
 unfold subDict
 refine wpAny_bind (wpAny_alloc (wpAny_bind (wpAny_holding ?_)))
 rw [if_pos (show (pairTrees [some k] [v] X.env pos).length≤15 from by show 1≤15; decide)]
 refine wpAny_bind (pairTrees_cons_walk (thn (hk pins _ σ _ _ I1 (q _ hn)) fun u s1 ⟨x,H1,J1,r1,h1⟩=>thn (hv pins s1 σ H1 _ J1 h1) fun u' s2 ⟨y,H2,I2,r2,b,key,ek,eb,hH,q2⟩=>pairTrees_nil_walk ?_))
 subst ek
 cases r1
 refine wpAny_holding ?_
 obtain ⟨z,hd,xs,rel,dd⟩:=qkE I2.hok hH
 cases rel
 rw [List.forIn_cons]
 refine wpAny_bind (wpAny_bind (wpAny_bind (wpAny_dictSet_heap (knd:=tupleKind (qau X.prog X.w)) (by show X.A.units < cLine; omega) (qdq I2.hok eb) dd (fun h' dd' hs=>wpAny_pure ?_) (by simp))))
 dsimp only
 rw [List.forIn_nil]
 refine wpAny_pure (wpAny_pure (wpAny_pure (wpAny_pure ?_)))
 obtain ⟨qo,es,ep,hq,h2,h3,h4,_,h5⟩:=dd'
 exact ⟨.ref s.heap.objs.size,_,qb6 (ob := .dT [(key,y)]) I2 (by rw [hH]; exact True.intro) hs ⟨qo,hq⟩ ⟨by rw [sizeLine_eq]; simp,hd,_,(KT.put .nil key eb r2).keeps fun c ys ec=>by rw [uE (qb2 ec hH (fun z=>nomatch z))]; exact ec,qo,es,ep,hq,h2,h3,h4,h5⟩,rfl,q2⟩
theorem qeF {K:PySem.W.Frag}{a:Addr}{xs:List V}:qcA (ItE K true a) xs.length (fun i H v H'=>∃ p x,v = .ref p/\H p=none/\H'=upd H p (.tup [.int i,x])/\xs[i]?=some x) (fun H=>H a=some (.lst xs)) :=
 ⟨fun i H hi o=>⟨xs,xs[i],(SqL.of o),by simp [hi]⟩,fun i H v H' hi o ⟨p,x,e1,e2,e3,e4⟩=>⟨p,x,e1,e2,e3,e4 xs (SqL.of o)⟩,fun H o=>⟨xs,(SqL.of o),Nat.le_refl _⟩⟩
end L2
namespace L2
open PySem PySem.Spec PyProof.Rows
end L2
namespace My
open PySem L2
end My
namespace L2
open PySem PySem.Spec PyProof.Rows PySem.W
end L2
namespace L2
open PySem PySem.Spec PyProof.Rows Srt
end L2
namespace L2
open PySem PySem.Spec PyProof.Rows
end L2
namespace L2
open PySem
end L2
namespace L2
open PySem PySem.Spec PyProof.Rows
end L2
namespace DI
open PySem PySem.W PySem.Spec PyProof.Rows
end DI
namespace L2
open PySem PySem.W PySem.Spec PyProof.Rows DI Srt
end L2
namespace L2
open PySem PySem.Spec PyProof.Rows Srt
theorem qbE {prog:Program}{w:World}{K:Type}[DecidableEq K]{knd:HeapKind prog w K}{A:Around}{E:Value->Shared->Prop}{s:Shared}{d a:Addr}{xs:List (K × Addr × Value)}{k:K}{v:Value}{Q:Value->Shared->Prop}
  (hu:knd.room A) (hkey:knd.is s.heap k a) (hm:Heap.DictOfH knd s.heap d xs) (hsz:xs.length≤sizeLine)
  (h1:∀ b x,atKey xs k=some (b,x)->Q x { s with toks:=s.toks + knd.draws k })
  (h2:atKey xs k=none->∀ h':Heap,Heap.DictOfH knd h' d (storedH xs k a v)->Heap.SameBut d s.heap h'->Q v { s with heap:=h',toks:=s.toks + knd.draws k }) :
  wpAny (model prog w) A (dictSetDefault d (.ref a) v) Q E s:=by
 obtain ⟨o,es,ep,ho,hc,hd,he,his,hn⟩:=hm
 have esl:es.size=xs.length:=by rw [<- Array.length_toList,he,List.length_map]
 unfold dictSetDefault
 refine wpAny_holding (wpAny_bind (knd.pyHash hu hkey ?_))
 refine wpAny_bind (wpAny_dictFind_heap (k:=k) hu hkey ho hd he his hn (fun hno=>?_) (fun j p hj=>?_))
 ·have hnone:=atKey_none_of_get hno
  have hnot:=not_mem_keys_of_get hno
  refine wpAny_bind (wpAny_rule (wpAny_bind (wpAny_updateDictKeys ho hd ?_ (by omega) (by simp))))
  refine wpAny_pure (h2 hnone _ ?_ (Heap.SameBut.update s.heap d _))
  refine ⟨_,_,_,Heap.get?_update_self _ ho (Obj.isFreed_of_dict (Obj.data_mapDictKeys hd _)),Obj.ExactDict.mapDictKeys hc _,Obj.data_mapDictKeys hd _,?_,fun x hx=>?_,?_⟩
  ·rw [storedH_new hnone,Array.toList_push,he,List.map_append]; rfl
  ·rw [storedH_new hnone] at hx
   rcases List.mem_append.mp hx with z | z
   ·exact knd.keeps (his x z) ho hd (Heap.SameBut.update s.heap d _)
   ·rw [List.mem_singleton.mp z]; exact knd.keeps hkey ho hd (Heap.SameBut.update s.heap d _)
  ·rw [storedH_new hnone,List.map_append,List.nodup_append]
   refine ⟨hn,by simp,fun x hx y hy e=>?_⟩
   rw [show y=k by simpa using hy] at e
   exact hnot (e ▸ hx)
 ·have hat:atKey xs k=some p:=by
   unfold atKey
   have hm':(k,p)∈xs:=List.mem_of_getElem? hj
   have:xs.find? (fun x=>decide (x.1=k))=some (k,p):=by
    clear hj his he esl hsz h1 h2
    induction xs with
    | nil=>cases hm'
    | cons y ys ih =>
     rw [List.find?_cons]
     by_cases z:y.1=k
     ·rw [decide_eq_true z]
      rcases List.mem_cons.mp hm' with q | q
      ·rw [q]
      ·exfalso
       simp only [List.map_cons,List.nodup_cons] at hn
       exact hn.1 (by rw [z]; exact List.mem_map.mpr ⟨(k,p),q,rfl⟩)
     ·rw [decide_eq_false z]
      rcases List.mem_cons.mp hm' with q | q
      ·exact absurd (by rw [<- q]) z
      ·exact ih (List.nodup_cons.mp hn).2 q
   rw [this]; rfl
  refine wpAny_bind (wpAny_dictEntries ho hd ?_)
  have ej:es[j]?=some (entryOfKey knd (k,p)):=by
   rw [<- Array.getElem?_toList,he,List.getElem?_map,hj]; rfl
  rw [ej]
  refine wpAny_bind (wpAny_rule (wpAny_pure ?_))
  exact h1 p.1 p.2 hat
theorem qcJ {prog:Program}{w:World}{K:Type}[DecidableEq K](knd:HeapKind prog w K)(d a:Addr)(hd:(d == sysModules)=false)(dflt:Value) :
  MeetsIn prog w (Builtin.«dict.setdefault» ⟨[.ref d,.ref a,dflt],[]⟩) fun A R s=>knd.room A.in1/\∃ k xs,knd.is s.heap k a/\Heap.DictOfH knd s.heap d xs/\xs.length≤sizeLine /\
   (∀ b x,atKey xs k=some (b,x)->R (Except.ok (Flow.ret x)) { s with toks:=s.toks + knd.draws k }) /\
   (atKey xs k=none->∀ h':Heap,Heap.DictOfH knd h' d (storedH xs k a dflt)->Heap.SameBut d s.heap h'->R (Except.ok (Flow.ret dflt)) { s with heap:=h',toks:=s.toks + knd.draws k }):=by
 refine MeetsIn.of_wp fun A R s ⟨hu,k,xs,hkey,hm,hsz,h1,h2⟩=>?_
 refine wpAny_bind (show wpAny _ _ (Builtin.Dict.keyAndDefault "setdefault" ⟨[.ref d,.ref a,dflt],[]⟩) _ _ _ from wpAny_bind (wpAny_notOrdered_dict hm.typeIs ?_))
 refine wpAny_pure ?_
 show wpAny _ _ (if (d == sysModules)=true then _ else (dictSetDefault d (.ref a) dflt >>= fun v=>ret v)) _ _ _
 rw [if_neg (by rw [hd]; decide)]
 refine wpAny_bind (qbE hu hkey hm hsz (fun b x e=>?_) (fun e h' q1 q2=>?_))
 ·exact wpAny_pure ⟨_,rfl,h1 b x e⟩
 ·exact wpAny_pure ⟨_,rfl,h2 e h' q1 q2⟩
def tDSet (td ty tx:TE):TE:=fun σ H Q=>td σ H fun x H1=>∃ a,x = .ref a/\IsD H1 a/\ty σ H1 fun y H2=>tx σ H2 fun z H3=>∃ kvs k b,H3 a=some (.dT kvs)/\y = .ref b/\H3 b=some (.tup (k.map kV))/\kvs.length < sizeLine /\
 (∀ v,valV kvs k=some v->Q v H3)/\(valV kvs k=none->Q z (upd H3 a (.dT (putK kvs k z))))
theorem qka {X:Cx}{o e f:Expr}{apos cpos:Pos}{td ty tx:TE}(hu:X.A.units + 1 < cLine)(ho:PE X o td)(he:PE X e ty)(hf:PE X f tx)(m:M2 X o "setdefault" apos e f cpos):PE X (.Call (.Attribute o "setdefault" apos) [e,f] [] cpos) (tDSet td ty tx):=by
 intro pins s σ H Q I h
 refine wpAny_Call_method m.base m.few m.line PySem.F.plainAttrs_dict PySem.F.slot_dict_setdefault PySem.F.type_dict_setdefault (thn (ho pins s σ H _ I h) fun u s1 ⟨x,H1,I1,rx,a,ex,d,q1⟩=>?_)
 subst ex
 obtain rfl:u=Value.ref a:=rx
 obtain ⟨t1,t2,_⟩:=qk8 I1 d
 refine ⟨t1,t2,?_⟩
 rw [m.trees]
 refine Calls.callWith_builtin rfl (Calls.evalArgs_plain (Calls.spliced_cons (thn (he pins s1 σ H1 _ I1 q1) fun iv s2 ⟨y,H2,I2,ry,q2⟩ =>
  Calls.spliced_cons (thn (hf pins s2 σ H2 _ I2 q2) fun fv s3 ⟨z,H3,I3,rz,kvs,k,b,ea,ey,eb,hl,q3,q4⟩=>Calls.spliced_nil ?_))))
 subst ey
 cases (show iv=Value.ref b from ry)
 obtain ⟨zz,hd,xs,rel,dd⟩:=qkE I3.hok ea
 have hz:xs.length≤sizeLine:=by rw [<- Paired.length rel]; exact zz
 have hl':(putK kvs k z).length≤sizeLine:=by have:=qbo kvs k z; omega
 refine call_meetsIn PySem.F.slot_dict_setdefault dd.typeIs PySem.F.entry_dict_setdefault (PySem.F.args_dict_setdefault_3 _ _ _) (qcJ (tupleKind (qau X.prog X.w)) a b hd fv) ⟨tupleKind_room_in1 hu,k,xs,qdq I3.hok eb,dd,hz,fun c x ex=>?_,fun ex h' dd' hs=>?_⟩
 ·have rl:=rel.val k
  rw [ex] at rl
  cases hv:valV kvs k with
  | none=>rw [hv] at rl; cases rl
  | some v =>
   rw [hv] at rl
   exact ⟨v,H3,I3.tok _,rl,q3 v hv⟩
 ·have rl:=rel.val k
  rw [ex] at rl
  cases hv:valV kvs k with
  | some v=>rw [hv] at rl; cases rl
  | none =>
   obtain ⟨q,es,ep,hq,g2,g3,g4,_,g5⟩:=dd'
   refine ⟨z,upd H3 a (.dT (putK kvs k z)),qb6 (ob := .dT (putK kvs k z)) I3 (by rw [ea]; exact True.intro) hs ⟨q,hq⟩ ⟨hl',hd,_,(rel.put k eb rz).keeps fun c ys ec=>?_,q,es,ep,hq,g2,g3,g4,g5⟩,rz,q4 hv⟩
   rw [uE (qb2 ec ea (fun z=>nomatch z))]
   exact ec
end L2
namespace L2
open PySem PySem.W PySem.Spec PyProof.Rows DI Srt
end L2
namespace PyProof.Rows
open PySem
end PyProof.Rows
namespace L2
open PySem PySem.Spec PyProof.Rows MA
end L2
namespace My
open PySem L2 MA
def top (i:Nat):Stmt:=PySem.Challenge.pw_emptierbox_k51_stands_that_are_refused.main.body.getD i (.Pass ⟨0,0,0,0⟩)
abbrev s_measure:Stmt:=top 12
theorem qdO:qai ["a", "b"] ["a", "b"] (qae s_measure):=⟨rfl,rfl,rfl,by decide +kernel,rfl,by decide +kernel,by decide +kernel⟩
abbrev s_share:Stmt:=top 13
theorem qgu:qai ["top", "bottom", "common"] ["top", "bottom"] (qae s_share):=⟨rfl,rfl,rfl,by decide +kernel,rfl,by decide +kernel,by decide +kernel⟩
abbrev s_plus:Stmt:=top 14
theorem qii:qai ["a", "b", "common", "top", "rest"] ["a", "b"] (qae s_plus):=⟨rfl,rfl,rfl,by decide +kernel,rfl,by decide +kernel,by decide +kernel⟩
abbrev s_times:Stmt:=top 15
theorem qgt:qai ["a", "b", "first", "second"] ["a", "b"] (qae s_times):=⟨rfl,rfl,rfl,by decide +kernel,rfl,by decide +kernel,by decide +kernel⟩
abbrev s_total:Stmt:=top 16
theorem qgs:qai ["some", "found", "one"] ["some"] (qae s_total):=⟨rfl,rfl,rfl,by decide +kernel,rfl,by decide +kernel,by decide +kernel⟩
abbrev s_parted:Stmt:=top 17
theorem qeU:qai ["top", "bottoms", "bottom", "number", "common"] ["top", "bottoms"] (qae s_parted):=⟨rfl,rfl,rfl,by decide +kernel,rfl,by decide +kernel,by decide +kernel⟩
abbrev s_gathered:Stmt:=top 19
theorem qdc:qai ["rows", "found", "thing", "weight"] ["rows"] (qae s_gathered):=⟨rfl,rfl,rfl,by decide +kernel,rfl,by decide +kernel,by decide +kernel⟩
abbrev s_summed:Stmt:=top 20
theorem qeS:qai ["rows", "found", "thing", "part"] ["rows"] (qae s_summed):=⟨rfl,rfl,rfl,by decide +kernel,rfl,by decide +kernel,by decide +kernel⟩
abbrev s_spread_of:Stmt:=top 21
theorem qcR:qai ["weights", "bottoms"] ["weights", "bottoms"] (qae s_spread_of):=⟨rfl,rfl,rfl,by decide +kernel,rfl,by decide +kernel,by decide +kernel⟩
abbrev s_ask_boxes_of:Stmt:=top 24
theorem qbG:qai ["net", "stand"] ["net", "stand"] (qae s_ask_boxes_of):=⟨rfl,rfl,rfl,by decide +kernel,rfl,by decide +kernel,by decide +kernel⟩
abbrev s_ask_few:Stmt:=top 25
theorem qbN:qai ["stands"] ["stands"] (qae s_ask_few):=⟨rfl,rfl,rfl,by decide +kernel,rfl,by decide +kernel,by decide +kernel⟩
abbrev s_box_weights:Stmt:=top 26
theorem qbV:qai ["net", "stand", "weights", "boxes", "pairs", "ties", "a", "b"] ["net", "stand"] (qae s_box_weights):=⟨rfl,rfl,rfl,by decide +kernel,rfl,by decide +kernel,by decide +kernel⟩
abbrev s_next_stands:Stmt:=top 27
theorem qbU:qai ["net", "stand"] ["net", "stand"] (qae s_next_stands):=⟨rfl,rfl,rfl,by decide +kernel,rfl,by decide +kernel,by decide +kernel⟩
abbrev s_all_weights:Stmt:=top 28
theorem qbW:qai ["net"] ["net"] (qae s_all_weights):=⟨rfl,rfl,rfl,by decide +kernel,rfl,by decide +kernel,by decide +kernel⟩
abbrev s_put_on:Stmt:=top 29
theorem qeT:qai ["net", "spread", "bottom", "told"] ["net", "spread"] (qae s_put_on):=⟨rfl,rfl,rfl,by decide +kernel,rfl,by decide +kernel,by decide +kernel⟩
abbrev s_after_on:Stmt:=top 30
theorem qdd:qai ["net", "stand", "many", "weights", "ball"] ["net", "stand", "many"] (qae s_after_on):=⟨rfl,rfl,rfl,by decide +kernel,rfl,by decide +kernel,by decide +kernel⟩
abbrev s_l_pen:Stmt:=top 32
theorem qgv:qai ["_law_script"] ["_law_script"] (qae s_l_pen):=⟨rfl,rfl,rfl,by decide +kernel,rfl,by decide +kernel,by decide +kernel⟩
abbrev s_l_draw:Stmt:=top 33
theorem qeW:qai ["_law_pen_here", "_law_many", "_law_at", "_law_cell", "_law_number", "_law_digit"] ["_law_pen_here", "_law_many"] (qae s_l_draw):=⟨rfl,rfl,rfl,by decide +kernel,rfl,by decide +kernel,by decide +kernel⟩
abbrev s_l_measure:Stmt:=top 34
theorem qcS:qai ["_law_a", "_law_b"] ["_law_a", "_law_b"] (qae s_l_measure):=⟨rfl,rfl,rfl,by decide +kernel,rfl,by decide +kernel,by decide +kernel⟩
abbrev s_l_lowest:Stmt:=top 35
theorem qda:qai ["_law_top", "_law_bottom", "_law_by"] ["_law_top", "_law_bottom"] (qae s_l_lowest):=⟨rfl,rfl,rfl,by decide +kernel,rfl,by decide +kernel,by decide +kernel⟩
abbrev s_l_net:Stmt:=top 36
theorem qgw:qai ["_law_pen_here", "_law_n", "_law_way", "_law_ties", "_law_many", "_law_pairs", "_law_k", "_law_a"] ["_law_pen_here", "_law_n"] (qae s_l_net):=⟨rfl,rfl,rfl,by decide +kernel,rfl,by decide +kernel,by decide +kernel⟩
abbrev s_l_stand:Stmt:=top 37
theorem qdP:qai ["_law_pen_here", "_law_n", "_law_balls", "_law_found", "_law_way", "_law_at", "_law_ball", "_law_box"] ["_law_pen_here", "_law_n", "_law_balls"] (qae s_l_stand):=⟨rfl,rfl,rfl,by decide +kernel,rfl,by decide +kernel,by decide +kernel⟩
abbrev s_l_on:Stmt:=top 38
theorem qij:qai ["_law_net_here", "_law_found", "_law_here", "_law_stand_here", "_law_a", "_law_b", "_law_goals", "_law_goal", "_law_there"] ["_law_net_here", "_law_found"] (qae s_l_on):=⟨rfl,rfl,rfl,by decide +kernel,rfl,by decide +kernel,by decide +kernel⟩
abbrev s_l_spread:Stmt:=top 40
theorem qc9:qai ["_law_found", "_law_whole"] ["_law_found"] (qae s_l_spread):=⟨rfl,rfl,rfl,by decide +kernel,rfl,by decide +kernel,by decide +kernel⟩
abbrev s_l_word:Stmt:=top 41
theorem qeV:qai ["_law_ask", "_law_caught", "e", "_law_some", "_law_others"] ["_law_ask"] (qae s_l_word):=⟨rfl,rfl,rfl,by decide +kernel,rfl,by decide +kernel,by decide +kernel⟩
abbrev s_l_behind:Stmt:=top 42
theorem qdb:qai ["_law_net_here", "_law_some"] ["_law_net_here", "_law_some"] (qae s_l_behind):=⟨rfl,rfl,rfl,by decide +kernel,rfl,by decide +kernel,by decide +kernel⟩
abbrev s_l_due:Stmt:=top 43
theorem qgx:qai ["_law_net_here", "_law_some", "_law_many", "_law_k"] ["_law_net_here", "_law_some", "_law_many"] (qae s_l_due):=⟨rfl,rfl,rfl,by decide +kernel,rfl,by decide +kernel,by decide +kernel⟩
abbrev s_l_all:Stmt:=top 44
theorem qed:qai ["_law_n", "_law_balls", "_law_found", "_law_first"] ["_law_n", "_law_balls"] (qae s_l_all):=⟨rfl,rfl,rfl,by decide +kernel,rfl,by decide +kernel,by decide +kernel⟩
abbrev qee:Stmt:=top 45
theorem qkW:qai ["_law_script", "_law_pen_here", "_law_ties", "_law_more", "_law_go", "_law_n", "_law_most", "_law_net_here", "_law_some", "_law_spread_here", "_law_other", "_law_boxes", "_law_stand_here", "_law_kept", "_law_k", "_law_balls"] ["_law_script"] (qae qee):=⟨rfl,rfl,rfl,by decide +kernel,rfl,by decide +kernel,by decide +kernel⟩
section
variable {P:Program}{w:World}{K:PySem.W.Frag}{mg:Str->Option Value}{base:Heap}
theorem qhp (T:Txt mg)(F:FunAt K mg "measure" ["a", "b"] s_measure):Cal P w K mg base "measure" ["a", "b"] 1 qbF:=by
 have S:=qdO
 refine F.cal qdO (fun vs H Q E h=>?_) (fun f cdv A outer s H vs Q E hr h=>?_)
 ·obtain ⟨a,b,rfl,_⟩:=h; rfl
 obtain ⟨a,b,rfl,q⟩:=h
 refine ⟨_,(@pK _ _ _ _ _ (@qgC _ _ (0) (1) _ _ _ _ _ _ _ _ _ _ _ ⋯ (by exact S.nd) ⋯ ⋯ (by decide) ⋯ ⋯ (@pC _ _ _ _ _ (@qak _ _ _ _ _ _ _ _ _ qcx ⋯ (by exact T.z_abs) (by exact qfp) (@pC _ _ _ _ _ (pv 0) pN ⋯) ⋯ ⋯ ⋯ ⋯) (@pC _ _ _ _ _ (@qak _ _ _ _ _ _ _ _ _ qcx ⋯ (by exact T.z_abs) (by exact qfp) (@pC _ _ _ _ _ (pv 1) pN ⋯) ⋯ ⋯ ⋯ ⋯) pN ⋯) ⋯) ⋯ ⋯) (@pK _ _ _ _ _ (@qgB _ _ _ _ _ _ (by exact PassesOwn.never) (@qal _ _ _ _ _ _ _ _ qen (pv 1) pI (by exact (qax _))) (@pO _ _ _ (@qgC _ _ (0) (1) _ _ _ _ _ _ _ _ _ _ _ ⋯ (by exact S.nd) ⋯ ⋯ (by decide) ⋯ ⋯ (@pC _ _ _ _ _ (pv 1) (@pC _ _ _ _ _ (@pP _ _ _ _ _ _ _ _ qbD (pv 0) (pv 1)) pN ⋯) ⋯) ⋯ ⋯))) (@pO _ _ _ (@qan _ _ _ _ (pv 0))))),?_⟩
 refine ⟨_,rfl,_,rfl,_,rfl,_,rfl,_,_,rfl,?_⟩
 refine qgc (fun σ H'=>H'=H/\∃ x y:Int,σ=[some (.int x),some (.int y)]/\0≤x/\0≤y/\gI x y=gI a b) (fun σ _=>match σ with | [_,some (.int y)]=>y.toNat | _=>0) ⟨rfl,_,_,rfl,?_,?_,?_⟩ ?_ ?_
 ·split <;> omega
 ·split <;> omega
 ·exact qny a b
 ·rintro σ H' ⟨rfl,x,y,rfl,hx,hy,hg⟩
  refine ⟨_,rfl,rfl,_,rfl,?_⟩
  refine ite2 (fun c=>?_) (fun c=>?_)
  ·have hy0:0 < y:=by
    have:¬ (V.int y=V.int 0):=by simpa using c
    have:y≠0:=fun e=>this (by rw [e])
    omega
   refine ⟨_,rfl,_,rfl,_,rfl,_,_,rfl,rfl,hy0,_,_,rfl,?_⟩
   have hm:=Int.emod_nonneg x (show y≠0 by omega)
   have hl:=Int.emod_lt_of_pos x hy0
   refine ⟨⟨rfl,_,_,rfl,hy,hm,?_⟩,?_⟩
   ·rw [qi9 hx]; exact hg
   ·show (x % y).toNat < y.toNat
    omega
  ·have hy0:y=0:=by
    have:V.int y=V.int 0:=by simpa using c
    exact V.int.inj this
   subst hy0
   refine ⟨_,rfl,?_⟩
   rw [qi8 hx] at hg
   rw [hg]
   exact q
 ·rintro σ H' Q1 Q2 hQ ⟨v,e,h1,b1,e2,h2⟩
  exact ⟨v,e,h1,b1,e2,hQ _ _ h2⟩
theorem qke (C_measure:Cal P w K mg base "measure" ["a", "b"] 1 qbF)(F:FunAt K mg "share" ["top", "bottom"] s_share):Cal P w K mg base "share" ["top", "bottom"] 2 qh9:=by
 have S:=qgu
 refine F.cal qgu (fun vs H Q E h=>?_) (fun f cdv A outer s H vs Q E hr h=>?_)
 ·obtain ⟨a,b,rfl,_⟩:=h; rfl
 obtain ⟨t,b,rfl,hb0,hb,k⟩:=h
 refine ⟨_,(@pK _ _ _ _ _ (@qbj _ _ _ _ _ _ _ _ (@qal _ _ _ _ _ _ _ _ qfS (pv 1) pI (by exact (qax _))) (@pO _ _ _ qj3) qaA) (@pK _ _ _ _ _ (@pZ _ _ (2) _ _ _ _ (by exact S.nd) ⋯ ⋯ (@cc _ _ _ _ _ _ _ _ _ _ (by exact C_measure) (by exact (hr.mono (by decide))) (@pC _ _ _ _ _ (pv 0) (@pC _ _ _ _ _ (pv 1) pN ⋯) ⋯) ⋯ ⋯ ⋯ ⋯) ⋯ ⋯) (@pK _ _ _ _ _ (@qbj _ _ _ _ _ _ _ _ (@qal _ _ _ _ _ _ _ _ qho (pv 1) pI (by exact (qax _))) (@pO _ _ _ (@pZ _ _ (2) _ _ _ _ (by exact S.nd) ⋯ ⋯ (@pe_un _ _ _ _ _ _ qmF (pv 2)) ⋯ ⋯)) qaA) (@pO _ _ _ (@qan _ _ _ _ (@qag _ _ _ _ _ (@pC _ _ _ _ _ (@pP _ _ _ _ _ _ _ _ qe4 (pv 0) (pv 2)) (@pC _ _ _ _ _ (@pP _ _ _ _ _ _ _ _ qe4 (pv 1) (pv 2)) pN ⋯) ⋯))))))),?_⟩
 have g0:=qaM (a:=t) hb0
 have gb:Bt 8000 (gI t b):=hb.gr hb0
 refine ⟨_,rfl,rfl,_,rfl,?_⟩
 refine ite2 (fun c=>absurd (V.int.inj (of_decide_eq_true c)) hb0) (fun _=>?_)
 refine ⟨_,rfl,_,rfl,_,_,rfl,?_⟩
 refine ⟨_,rfl,_,_,rfl,rfl,_,rfl,?_⟩
 refine ite2 (fun c=>?_) (fun c=>?_)
 ·have hb':b < 0:=of_decide_eq_true c
  have e:=qig (t:=t) hb'
  refine ⟨_,rfl,_,rfl,?_⟩
  refine ⟨_,rfl,_,rfl,_,_,rfl,rfl,⟨by omega,gb.neg⟩,_,rfl,_,rfl,_,_,rfl,rfl,⟨by omega,gb.neg⟩,(by show 2≤sizeLine; decide),fun p hp=>?_⟩
  exact k _ _ (sN hp _) ⟨p,rfl,by rw [uS]; dsimp only; rw [e.1,e.2]⟩
 ·have hb':0 < b:=by
   have:¬ b < 0:=by simpa using c
   omega
  have e:=qbu (t:=t) hb'
  refine ⟨_,rfl,_,rfl,_,_,rfl,rfl,⟨by omega,gb⟩,_,rfl,_,rfl,_,_,rfl,rfl,⟨by omega,gb⟩,(by show 2≤sizeLine; decide),fun p hp=>?_⟩
  exact k _ _ (sN hp _) ⟨p,rfl,by rw [uS]; dsimp only; rw [Int.fdiv_eq_ediv_of_nonneg _ (qfi t b),Int.fdiv_eq_ediv_of_nonneg _ (qfi t b),e.1,e.2]⟩
theorem qlY (C_measure:Cal P w K mg base "measure" ["a", "b"] 1 qbF)(F:FunAt K mg "plus" ["a", "b"] s_plus):Cal P w K mg base "plus" ["a", "b"] 2 qkS:=by
 have S:=qii
 refine F.cal qii (fun vs H Q E h=>?_) (fun f cdv A outer s H vs Q E hr h=>?_)
 ·obtain ⟨a,b,_,_,rfl,_⟩:=h; rfl
 obtain ⟨_,_,q,r,rfl,⟨pa,rfl,ha⟩,⟨pb,rfl,hb⟩,⟨b1,b2⟩,⟨b3,b4⟩,_,k⟩:=h
 refine ⟨_,(@pK _ _ _ _ _ (@pZ _ _ (2) _ _ _ _ (by exact S.nd) ⋯ ⋯ (@cc _ _ _ _ _ _ _ _ _ _ (by exact C_measure) (by exact (hr.mono (by decide))) (@pC _ _ _ _ _ (@qaw _ _ _ _ _ _ _ qas (pv 0) pI (by exact (fun _ _=>rfl))) (@pC _ _ _ _ _ (@qaw _ _ _ _ _ _ _ qas (pv 1) pI (by exact (fun _ _=>rfl))) pN ⋯) ⋯) ⋯ ⋯ ⋯ ⋯) ⋯ ⋯) (@pK _ _ _ _ _ (@pZ _ _ (3) _ _ _ _ (by exact S.nd) ⋯ ⋯ (@pP _ _ _ _ _ _ _ _ qaP (@pP _ _ _ _ _ _ _ _ qcG (@qaw _ _ _ _ _ _ _ qas (pv 0) pI (by exact (fun _ _=>rfl))) (@pP _ _ _ _ _ _ _ _ qaN (@qaw _ _ _ _ _ _ _ qas (pv 1) pI (by exact (fun _ _=>rfl))) (pv 2))) (@pP _ _ _ _ _ _ _ _ qcG (@qaw _ _ _ _ _ _ _ qas (pv 1) pI (by exact (fun _ _=>rfl))) (@pP _ _ _ _ _ _ _ _ qaN (@qaw _ _ _ _ _ _ _ qas (pv 0) pI (by exact (fun _ _=>rfl))) (pv 2)))) ⋯ ⋯) (@pK _ _ _ _ _ (@pZ _ _ (4) _ _ _ _ (by exact S.nd) ⋯ ⋯ (@cc _ _ _ _ _ _ _ _ _ _ (by exact C_measure) (by exact (hr.mono (by decide))) (@pC _ _ _ _ _ (pv 3) (@pC _ _ _ _ _ (pv 2) pN ⋯) ⋯) ⋯ ⋯ ⋯ ⋯) ⋯ ⋯) (@pO _ _ _ (@qan _ _ _ _ (@qag _ _ _ _ _ (@pC _ _ _ _ _ (@pP _ _ _ _ _ _ _ _ qaN (pv 3) (pv 4)) (@pC _ _ _ _ _ (@pP _ _ _ _ _ _ _ _ qcG (@pP _ _ _ _ _ _ _ _ qaN (@qaw _ _ _ _ _ _ _ qas (pv 0) pI (by exact (fun _ _=>rfl))) (pv 2)) (@pP _ _ _ _ _ _ _ _ qaN (@qaw _ _ _ _ _ _ _ qas (pv 1) pI (by exact (fun _ _=>rfl))) (pv 4))) pN ⋯) ⋯))))))),?_⟩
 have c0:0 < gI q.den r.den:=qf5 (qdX q)
 have cb:Bt 3000 (gI q.den r.den):=b2.gl (qdX q)
 refine ⟨_,rfl,pa,_,_,_,rfl,rfl,SqT.of ha,rfl,_,rfl,pb,_,_,_,rfl,rfl,SqT.of hb,rfl,_,_,rfl,?_⟩
 refine ⟨_,rfl,pa,_,_,_,rfl,rfl,SqT.of ha,rfl,_,rfl,pb,_,_,_,rfl,rfl,SqT.of hb,rfl,_,rfl,_,_,rfl,rfl,⟨c0,cb.mono (by decide)⟩,_,_,rfl,rfl,⟨b1.mono (by decide),(b4.ediv c0).mono (by decide)⟩,
  _,rfl,pb,_,_,_,rfl,rfl,SqT.of hb,rfl,_,rfl,pa,_,_,_,rfl,rfl,SqT.of ha,rfl,_,rfl,_,_,rfl,rfl,⟨c0,cb.mono (by decide)⟩,_,_,rfl,rfl,⟨b3.mono (by decide),(b2.ediv c0).mono (by decide)⟩,_,_,rfl,rfl,?_⟩
 refine ⟨_,rfl,_,rfl,_,_,rfl,?_⟩
 have r0:0 < gI (q.num * ((r.den:Int) / gI q.den r.den) + r.num * ((q.den:Int) / gI q.den r.den)) (gI q.den r.den):=qaM (by omega)
 have rb:Bt 8000 (gI (q.num * ((r.den:Int) / gI q.den r.den) + r.num * ((q.den:Int) / gI q.den r.den)) (gI q.den r.den)):=(cb.gr (by omega)).mono (by decide)
 refine ⟨_,rfl,_,rfl,_,_,rfl,rfl,⟨r0,rb⟩,_,rfl,pa,_,_,_,rfl,rfl,SqT.of ha,rfl,_,rfl,_,_,rfl,rfl,⟨c0,cb.mono (by decide)⟩,
  _,rfl,pb,_,_,_,rfl,rfl,SqT.of hb,rfl,_,rfl,_,_,rfl,rfl,⟨r0,rb⟩,_,_,rfl,rfl,⟨(b2.ediv c0).mono (by decide),(b4.ediv r0).mono (by decide)⟩,(by show 2≤sizeLine; decide),fun p hp=>?_⟩
 have e:=qlM q r _ _ _ rfl rfl rfl
 exact k _ _ (sN hp _) ⟨p,rfl,by rw [uS]; dsimp only; rw [e.1,e.2]⟩
theorem qkd (C_measure:Cal P w K mg base "measure" ["a", "b"] 1 qbF)(F:FunAt K mg "times" ["a", "b"] s_times):Cal P w K mg base "times" ["a", "b"] 3 qh8:=by
 have S:=qgt
 refine (F.cal (k:=1) qgt (fun vs H Q E h=>?_) (fun f cdv A outer s H vs Q E hr h=>?_)).mono (by decide)
 ·obtain ⟨a,b,_,_,rfl,_⟩:=h; rfl
 obtain ⟨_,_,q,r,rfl,⟨pa,rfl,ha⟩,⟨pb,rfl,hb⟩,⟨b1,b2⟩,⟨b3,b4⟩,_,k⟩:=h
 refine ⟨_,(@pK _ _ _ _ _ (@qgC _ _ (2) (3) _ _ _ _ _ _ _ _ _ _ _ ⋯ (by exact S.nd) ⋯ ⋯ (by decide) ⋯ ⋯ (@pC _ _ _ _ _ (@cc _ _ _ _ _ _ _ _ _ _ (by exact C_measure) (by exact (hr.mono (by decide))) (@pC _ _ _ _ _ (@qaw _ _ _ _ _ _ _ qas (pv 0) pI (by exact (fun _ _=>rfl))) (@pC _ _ _ _ _ (@qaw _ _ _ _ _ _ _ qas (pv 1) pI (by exact (fun _ _=>rfl))) pN ⋯) ⋯) ⋯ ⋯ ⋯ ⋯) (@pC _ _ _ _ _ (@cc _ _ _ _ _ _ _ _ _ _ (by exact C_measure) (by exact (hr.mono (by decide))) (@pC _ _ _ _ _ (@qaw _ _ _ _ _ _ _ qas (pv 1) pI (by exact (fun _ _=>rfl))) (@pC _ _ _ _ _ (@qaw _ _ _ _ _ _ _ qas (pv 0) pI (by exact (fun _ _=>rfl))) pN ⋯) ⋯) ⋯ ⋯ ⋯ ⋯) pN ⋯) ⋯) ⋯ ⋯) (@pO _ _ _ (@qan _ _ _ _ (@qag _ _ _ _ _ (@pC _ _ _ _ _ (@pP _ _ _ _ _ _ _ _ qcG (@pP _ _ _ _ _ _ _ _ qaN (@qaw _ _ _ _ _ _ _ qas (pv 0) pI (by exact (fun _ _=>rfl))) (pv 2)) (@pP _ _ _ _ _ _ _ _ qaN (@qaw _ _ _ _ _ _ _ qas (pv 1) pI (by exact (fun _ _=>rfl))) (pv 3))) (@pC _ _ _ _ _ (@pP _ _ _ _ _ _ _ _ qcG (@pP _ _ _ _ _ _ _ _ qaN (@qaw _ _ _ _ _ _ _ qas (pv 0) pI (by exact (fun _ _=>rfl))) (pv 3)) (@pP _ _ _ _ _ _ _ _ qaN (@qaw _ _ _ _ _ _ _ qas (pv 1) pI (by exact (fun _ _=>rfl))) (pv 2))) pN ⋯) ⋯))))),?_⟩
 have f0:0 < gI q.num r.den:=qaM (qdX r)
 have s0:0 < gI r.num q.den:=qaM (qdX q)
 have fb:Bt 8000 (gI q.num r.den):=(b4.gr (qdX r)).mono (by decide)
 have sb:Bt 8000 (gI r.num q.den):=(b2.gr (qdX q)).mono (by decide)
 refine ⟨_,rfl,pa,_,_,_,rfl,rfl,SqT.of ha,rfl,_,rfl,pb,_,_,_,rfl,rfl,SqT.of hb,rfl,_,_,rfl,_,rfl,pb,_,_,_,rfl,rfl,SqT.of hb,rfl,_,rfl,pa,_,_,_,rfl,rfl,SqT.of ha,rfl,_,_,rfl,_,_,rfl,?_⟩
 refine ⟨_,rfl,pa,_,_,_,rfl,rfl,SqT.of ha,rfl,_,rfl,_,_,rfl,rfl,⟨f0,fb⟩,_,rfl,pb,_,_,_,rfl,rfl,SqT.of hb,rfl,_,rfl,_,_,rfl,rfl,⟨s0,sb⟩,_,_,rfl,rfl,⟨(b1.ediv f0).mono (by decide),(b3.ediv s0).mono (by decide)⟩,
  _,rfl,pa,_,_,_,rfl,rfl,SqT.of ha,rfl,_,rfl,_,_,rfl,rfl,⟨s0,sb⟩,_,rfl,pb,_,_,_,rfl,rfl,SqT.of hb,rfl,_,rfl,_,_,rfl,rfl,⟨f0,fb⟩,_,_,rfl,rfl,⟨(b2.ediv s0).mono (by decide),(b4.ediv f0).mono (by decide)⟩,(by show 2≤sizeLine; decide),fun p hp=>?_⟩
 have e:=qh0 q r
 exact k _ _ (sN hp _) ⟨p,rfl,by rw [uS]; dsimp only; rw [e.1,e.2]⟩
theorem qkc (C_plus:Cal P w K mg base "plus" ["a", "b"] 2 qkS)(F:FunAt K mg "total" ["some"] s_total):Cal P w K mg base "total" ["some"] 3 qh7:=by
 have S:=qgs
 refine F.cal qgs (fun vs H Q E h=>?_) (fun f cdv A outer s H vs Q E hr h=>?_)
 ·obtain ⟨l,_,_,rfl,_⟩:=h; rfl
 obtain ⟨l,xs,qs,rfl,hl,hs,hb,hp,k⟩:=h
 refine ⟨_,(@pK _ _ _ _ _ (@pZ _ _ (1) _ _ _ _ (by exact S.nd) ⋯ ⋯ (@qag _ _ _ _ _ (@pC _ _ _ _ _ pI (@pC _ _ _ _ _ pI pN ⋯) ⋯)) ⋯ ⋯) (@pK _ _ _ _ _ (@qbd _ _ _ _ _ _ _ _ (by exact PassesOwn.never) ⋯ (@qa5 _ _ _ _ (pv 0)) (@pG _ _ (2) _ (by exact S.nd) ⋯ ⋯ ⋯) (@pO _ _ _ (@pZ _ _ (1) _ _ _ _ (by exact S.nd) ⋯ ⋯ (@cc _ _ _ _ _ _ _ _ _ _ (by exact C_plus) (by exact (hr.mono (by decide))) (@pC _ _ _ _ _ (pv 1) (@pC _ _ _ _ _ (pv 2) pN ⋯) ⋯) ⋯ ⋯ ⋯ ⋯) ⋯ ⋯)) ⋯) (@pO _ _ _ (@qan _ _ _ _ (pv 1))))),?_⟩
 refine ⟨(by show 2≤sizeLine; decide),fun p hp0=>?_⟩
 have s0:=sN hp0 (.tup [.int 0,.int 1])
 refine ⟨_,rfl,l,rfl,⟨_,SqL.of (s0 _ _ hl)⟩,qew (xs:=xs) (fun i σ H2=>∃ (v:V) (u:Option V),σ=[some (.ref l),some v,u]/\Same H H2/\ShAt H2 v ((qs.take i).foldl (· + ·) 0))
  ⟨_,_,rfl,s0,p,rfl,uS⟩ (fun i σ H2 _ ⟨_,_,_,s2,_⟩=>SqL.of (s2 _ _ hl)) ?_ ?_⟩
 ·rintro i y σ H2 hi ⟨v,u,rfl,s2,hv⟩
  obtain ⟨q,hq,hy⟩:=Paired.at' hs hi
  refine ⟨_,rfl,_,rfl,_,_,_,q,rfl,hv,hy.same s2,hp i,hb q (List.mem_of_getElem? hq),trivial,fun v' H3 s3 hv'=>?_⟩
  refine ⟨_,_,rfl,s2.trans s3,?_⟩
  rw [qjb hq]
  exact hv'
 ·rintro σ H2 ⟨v,u,rfl,s2,hv⟩
  refine ⟨_,rfl,?_⟩
  have e:qs.length=xs.length:=(Paired.length hs).symm
  rw [<- e,List.take_length] at hv
  exact k _ _ s2 hv
theorem qne (F:FunAt K mg "_law_pen" ["_law_script"] s_l_pen):Cal P w K mg base "_law_pen" ["_law_script"] 1 (qmR K):=by
 have S:=qgv
 refine F.cal qgv (fun vs H Q E h=>?_) (fun f cdv A outer s H vs Q E hr h=>?_)
 ·obtain ⟨a,ns,rfl,_⟩:=h; rfl
 obtain ⟨a,ns,rfl,ha,k⟩:=h
 obtain ⟨ms,hms⟩:=qkH ns none (some 63)
 refine ⟨_,(@pO _ _ _ (@qan _ _ _ _ (@qlO _ _ _ _ _ (@qeh _ _ _ _ _ _ _ _ _ qav (@qbO _ _ _ _ _ _ _ _ _ _ qie (pv 0) qcE (@qcD _ _ _ pI)) (@qeh _ _ _ _ _ _ _ _ _ qav pI (@qeh _ _ _ _ _ _ _ _ _ qav pI qlL))) ⋯ ⋯ (by simp) (by decide)))),?_⟩
 intro p hp
 have s1:Same H (upd H p (.dK [])):=sN hp _
 refine ⟨_,rfl,_,rfl,a,_,rfl,s1.seq ha,fun c hc=>?_⟩
 have hpc:p≠c:=fun e=>by rw [<- e,uS] at hc; cases hc
 refine ⟨by rw [uE hpc]; exact uS,[(.inr "cells",.ref c),(.inr "at",.int 0),(.inr "left",.int 0)],rfl,(by show 3≤15; decide),?_⟩
 refine k p _ (fun b o e=>?_) ⟨c,ms,0,0,?_,?_,by omega,by omega⟩
 ·rw [uE (qab e hp),uE,uE (qab e hp)]
  ·exact e
  ·intro z
   subst z
   rw [uE (Ne.symm hpc),e] at hc
   cases hc
 ·rw [uS]
  rfl
 ·rw [uE (Ne.symm hpc),uS,hms]
theorem qfU (F:FunAt K mg "_law_measure" ["_law_a", "_law_b"] s_l_measure):Cal P w K mg base "_law_measure" ["_law_a", "_law_b"] 1 qdL:=by
 have S:=qcS
 refine F.cal qcS (fun vs H Q E h=>?_) (fun f cdv A outer s H vs Q E hr h=>?_)
 ·obtain ⟨a,b,rfl,_⟩:=h; rfl
 obtain ⟨a,b,rfl,ha,hb,q⟩:=h
 refine ⟨_,(@pK _ _ _ _ _ (@qgB _ _ _ _ _ _ (by exact PassesOwn.never) (@qal _ _ _ _ _ _ _ _ qfQ (pv 1) pI (by exact (qax _))) (@pO _ _ _ (@qgC _ _ (0) (1) _ _ _ _ _ _ _ _ _ _ _ ⋯ (by exact S.nd) ⋯ ⋯ (by decide) ⋯ ⋯ (@pC _ _ _ _ _ (pv 1) (@pC _ _ _ _ _ (@pP _ _ _ _ _ _ _ _ qbD (pv 0) (pv 1)) pN ⋯) ⋯) ⋯ ⋯))) (@pO _ _ _ (@qan _ _ _ _ (pv 0)))),?_⟩
 refine qgc (fun σ H'=>H'=H/\∃ x y:Int,σ=[some (.int x),some (.int y)]/\0≤x/\0≤y/\gI x y=gI a b) (fun σ _=>match σ with | [_,some (.int y)]=>y.toNat | _=>0) ⟨rfl,_,_,rfl,ha,hb,rfl⟩ ?_ ?_
 ·rintro σ H' ⟨rfl,x,y,rfl,hx,hy,hg⟩
  refine ⟨_,rfl,_,_,rfl,rfl,_,rfl,?_⟩
  refine ite2 (fun c=>?_) (fun c=>?_)
  ·have hy0:0 < y:=of_decide_eq_true c
   refine ⟨_,rfl,_,rfl,_,rfl,_,_,rfl,rfl,hy0,_,_,rfl,?_⟩
   have hm:=Int.emod_nonneg x (show y≠0 by omega)
   have hl:=Int.emod_lt_of_pos x hy0
   refine ⟨⟨rfl,_,_,rfl,hy,hm,?_⟩,?_⟩
   ·rw [qi9 hx]; exact hg
   ·show (x % y).toNat < y.toNat
    omega
  ·have hy0:y=0:=by
    have:¬ 0 < y:=by simpa using c
    omega
   subst hy0
   refine ⟨_,rfl,?_⟩
   rw [qi8 hx] at hg
   rw [hg]
   exact q
 ·rintro σ H' Q1 Q2 hQ ⟨v,e,h0,b0,h1,h2,b1,e2,h3⟩
  exact ⟨v,e,h0,b0,h1,h2,b1,e2,hQ _ _ h3⟩
theorem qnq {C R:Int->Hp->Prop}{G:Prop}(main:(∀ a h,C a h->R a h)->G)(key:∀ a h,C a h->R a h):G:=main key
theorem qkh (T:Txt mg)(F:FunAt K mg "_law_draw" ["_law_pen_here", "_law_many"] s_l_draw):Cal P w K mg base "_law_draw" ["_law_pen_here", "_law_many"] 1 qgo:=by
 have S:=qeW
 refine F.cal qeW (fun vs H Q E h=>?_) (fun f cdv A outer s H vs Q E hr h=>?_)
 ·obtain ⟨p,m,n,rfl,_⟩:=h; rfl
 obtain ⟨p,m,n,rfl,⟨c,ns,a,l,hp,hc,ha0,han⟩,hn,hm,hm2,k⟩:=h
 have hu:=qhA hr
 have hcp:c≠p:=qb2 hc hp (by intro z; cases z)
 refine ⟨_,(@pK _ _ _ _ _ (@qbj _ _ _ _ _ _ _ _ (@qal _ _ _ _ _ _ _ _ qfQ (@qbr _ _ _ _ _ _ (by exact hu) (pv 0) qav (by exact (fun _ _=>rfl))) pI (by exact (qax _))) (@pK _ _ _ _ _ (@pZ _ _ (5) _ _ _ _ (by exact S.nd) ⋯ ⋯ (@pP _ _ _ _ _ _ _ _ qbD (@qbr _ _ _ _ _ _ (by exact hu) (pv 0) qav (by exact (fun _ _=>rfl))) (pv 1)) ⋯ ⋯) (@pK _ _ _ _ _ (@qdf _ _ _ _ _ _ _ _ _ (by exact hu) (pv 0) qav (@pP _ _ _ _ _ _ _ _ qfR (@qbr _ _ _ _ _ _ (by exact hu) (pv 0) qav (by exact (fun _ _=>rfl))) (pv 1)) ⋯) (@pO _ _ _ (@qan _ _ _ _ (pv 5))))) qaA) (@pK _ _ _ _ _ (@pZ _ _ (2) _ _ _ _ (by exact S.nd) ⋯ ⋯ (@qbr _ _ _ _ _ _ (by exact hu) (pv 0) qav (by exact (fun _ _=>rfl))) ⋯ ⋯) (@pK _ _ _ _ _ (@qdf _ _ _ _ _ _ _ _ _ (by exact hu) (pv 0) qav (@pP _ _ _ _ _ _ _ _ qaP (pv 2) pI) ⋯) (@pK _ _ _ _ _ (@pZ _ _ (3) _ _ _ _ (by exact S.nd) ⋯ ⋯ (@pP _ _ _ _ _ _ _ _ qaP (@pP _ _ _ _ _ _ _ _ qcj (@pP _ _ _ _ _ _ _ _ qcj pI (pv 2)) (pv 2)) pI) ⋯ ⋯) (@pK _ _ _ _ _ (@qbj _ _ _ _ _ _ _ _ (@qal _ _ _ _ _ _ _ _ qfQ (@qak _ _ _ _ _ _ _ _ _ qaH ⋯ (by exact T.z_len) (by exact qcy) (@pC _ _ _ _ _ (@qbr _ _ _ _ _ _ (by exact hu) (pv 0) qav (by exact (fun _ _=>rfl))) pN ⋯) ⋯ ⋯ ⋯ ⋯) pI (by exact (qax _))) (@pO _ _ _ (@pZ _ _ (3) _ _ _ _ (by exact S.nd) ⋯ ⋯ (@qaw _ _ _ _ _ _ _ qaQ (@qbr _ _ _ _ _ _ (by exact hu) (pv 0) qav (by exact (fun _ _=>rfl))) (@pP _ _ _ _ _ _ _ _ qbD (pv 2) (@qak _ _ _ _ _ _ _ _ _ qaH ⋯ (by exact T.z_len) (by exact qcy) (@pC _ _ _ _ _ (@qbr _ _ _ _ _ _ (by exact hu) (pv 0) qav (by exact (fun _ _=>rfl))) pN ⋯) ⋯ ⋯ ⋯ ⋯)) (by exact (fun _ _=>rfl))) ⋯ ⋯)) qaA) (@pK _ _ _ _ _ (@qbj _ _ _ _ _ _ _ _ (@PW.pt _ _ _ (@qim _ _ _ _ _ _ _ (@qal _ _ _ _ _ _ _ _ qho (pv 2) (@qak _ _ _ _ _ _ _ _ _ qaH ⋯ (by exact T.z_len) (by exact qcy) (@pC _ _ _ _ _ (@qbr _ _ _ _ _ _ (by exact hu) (pv 0) qav (by exact (fun _ _=>rfl))) pN ⋯) ⋯ ⋯ ⋯ ⋯) (by exact (qax _))) (@qfK _ _ _ _ (@qal _ _ _ _ _ _ _ _ op_ge (@qak _ _ _ _ _ _ _ _ _ qcx ⋯ (by exact T.z_abs) (by exact qfp) (@pC _ _ _ _ _ (pv 3) pN ⋯) ⋯ ⋯ ⋯ ⋯) (@pP _ _ _ _ _ _ _ _ qna pI pI) (by exact (qax _)))))) (@pK _ _ _ _ _ (@qdf _ _ _ _ _ _ _ _ _ (by exact hu) (pv 0) qav (@pP _ _ _ _ _ _ _ _ qfR (@qak _ _ _ _ _ _ _ _ _ qcx ⋯ (by exact T.z_abs) (by exact qfp) (@pC _ _ _ _ _ (pv 3) pN ⋯) ⋯ ⋯ ⋯ ⋯) (pv 1)) ⋯) (@pO _ _ _ (@qan _ _ _ _ (@pP _ _ _ _ _ _ _ _ qbD (@qak _ _ _ _ _ _ _ _ _ qcx ⋯ (by exact T.z_abs) (by exact qfp) (@pC _ _ _ _ _ (pv 3) pN ⋯) ⋯ ⋯ ⋯ ⋯) (pv 1))))) qaA) (@pK _ _ _ _ _ (@pZ _ _ (4) _ _ _ _ (by exact S.nd) ⋯ ⋯ (@pP _ _ _ _ _ _ _ _ qbD (@pP _ _ _ _ _ _ _ _ qcj (@pP _ _ _ _ _ _ _ _ qaP (@pP _ _ _ _ _ _ _ _ qaP (@pP _ _ _ _ _ _ _ _ qbD (pv 3) pI) (@pP _ _ _ _ _ _ _ _ qcj pI (pv 2))) pI) pI) pI) ⋯ ⋯) (@pK _ _ _ _ _ (@pZ _ _ (4) _ _ _ _ (by exact S.nd) ⋯ ⋯ (@pP _ _ _ _ _ _ _ _ qbD (@pP _ _ _ _ _ _ _ _ qaP (@pP _ _ _ _ _ _ _ _ qaP (@pP _ _ _ _ _ _ _ _ qcj (pv 4) (pv 4)) (@pP _ _ _ _ _ _ _ _ qcj pI (pv 4))) (pv 2)) pI) ⋯ ⋯) (@pK _ _ _ _ _ (@pZ _ _ (4) _ _ _ _ (by exact S.nd) ⋯ ⋯ (@pP _ _ _ _ _ _ _ _ qbD (@pP _ _ _ _ _ _ _ _ qcj (pv 4) (@pP _ _ _ _ _ _ _ _ qaP (@pP _ _ _ _ _ _ _ _ qbD (pv 4) pI) pI)) pI) ⋯ ⋯) (@pO _ _ _ (@qan _ _ _ _ (@pP _ _ _ _ _ _ _ _ qbD (@pP _ _ _ _ _ _ _ _ qfR (pv 4) pI) (pv 1))))))))))))),?_⟩
 apply qnq (C:=fun (x:Int) (H':Hp)=>Pen H' p (n + 1)/\qa9 p H H')
 case main =>
  intro key
  have gl:=qku hp
  refine ⟨_,rfl,p,_,rfl,gl,_,_,rfl,rfl,_,rfl,?_⟩
  refine ite2 (fun _=>?_) (fun _=>?_)
  ·refine ⟨_,rfl,p,_,rfl,gl,_,rfl,_,_,rfl,rfl,hm,?_⟩
   refine ⟨_,rfl,p,_,rfl,gl,_,rfl,_,_,rfl,rfl,⟨hm,hm2⟩,_,rfl,p,_,rfl,qfm hp,?_⟩
   refine ⟨_,rfl,?_⟩
   exact k _ _ (Int.emod_nonneg _ (by omega)) (Int.emod_lt_of_pos _ hm) ⟨c,ns,a,_,uS,by rw [uE hcp]; exact hc,ha0,by omega⟩ (qa9.upd hp)
  refine ⟨_,rfl,p,_,rfl,qnx hp,?_⟩
  refine ⟨_,rfl,_,_,rfl,rfl,_,rfl,p,_,rfl,qmu hp,?_⟩
  have hp1:(upd H p (.dK (penL c (a + 1) l))) p=some (.dK (penL c (a + 1) l)):=uS
  have hc1:(upd H p (.dK (penL c (a + 1) l))) c=some (.lst (ns.map V.int)):=by rw [uE hcp]; exact hc
  have x1:qa9 p H (upd H p (.dK (penL c (a + 1) l))):=qa9.upd hp
  generalize upd H p (.dK (penL c (a + 1) l))=H1 at hp1 hc1 x1
  have gc:=qi5 hp1
  have pen1:Pen H1 p (n + 1):=⟨c,ns,a + 1,l,hp1,hc1,by omega,by omega⟩
  have ha1:a≤100000:=by omega
  have haa:0≤11 * a/\11 * a≤1100000:=by omega
  refine ⟨_,rfl,_,_,rfl,rfl,.inl ⟨by decide,by decide⟩,_,rfl,_,_,rfl,rfl,.inl ⟨by omega,by omega⟩,_,_,rfl,rfl,?_⟩
  refine ⟨_,rfl,p,_,rfl,gc,c,_,rfl,.inl (SqL.of hc1),_,_,rfl,rfl,_,rfl,?_⟩
  refine ite2 (fun c0=>?_) (fun c0=>?_)
  ·have hl:0 < ns.length:=by
    have:(0:Int) < (((ns.map V.int).length:Nat):Int):=of_decide_eq_true c0
    rw [List.length_map] at this
    omega
   obtain ⟨z,hz⟩:=qmy (ns:=ns) a hl
   refine ⟨_,rfl,p,_,rfl,gc,_,rfl,_,rfl,p,_,rfl,gc,c,_,rfl,.inl (SqL.of hc1),_,_,rfl,rfl,(by rw [List.length_map]; omega),c,_,_,_,rfl,rfl,SqL.of hc1,hz,?_⟩
   refine ⟨_,rfl,_,rfl,p,_,rfl,gc,c,_,rfl,.inl (SqL.of hc1),_,_,rfl,rfl,_,rfl,?_⟩
   refine ite2 (fun c1=>?_) (fun c1=>iteF ?_)
   ·refine ⟨_,rfl,_,rfl,_,_,rfl,rfl,⟨by decide,by decide,by decide⟩,_,_,rfl,rfl,_,rfl,?_⟩
    refine ite2 (fun c2=>?_) (fun c2=>?_)
    ·refine ⟨_,rfl,_,rfl,_,rfl,_,_,rfl,rfl,⟨hm,hm2⟩,_,rfl,p,_,rfl,qfm hp1,?_⟩
     refine ⟨_,rfl,_,rfl,_,rfl,_,_,rfl,rfl,hm,?_⟩
     exact k _ _ (Int.emod_nonneg _ (by omega)) (Int.emod_lt_of_pos _ hm) ⟨c,ns,a + 1,_,uS,by rw [uE hcp]; exact hc1,by omega,by omega⟩ (x1.trans (qa9.upd hp1))
    ·exact key z H1 ⟨pen1,x1⟩
   ·exact key z H1 ⟨pen1,x1⟩
  ·refine ⟨_,rfl,_,rfl,p,_,rfl,gc,c,_,rfl,.inl (SqL.of hc1),_,_,rfl,rfl,_,rfl,?_⟩
   refine ite2 (fun c1=>?_) (fun c1=>iteF ?_)
   ·exfalso
    have e1:¬ (0:Int) < (((ns.map V.int).length:Nat):Int):=by simpa using c0
    have e2:a < (((ns.map V.int).length:Nat):Int):=of_decide_eq_true c1
    omega
   ·exact key (11 * a * a + 5) H1 ⟨pen1,x1⟩
 case key =>
  rintro x H' ⟨pen1,x1⟩
  have a1:a≤100000:=by omega
  have e0:=Int.emod_nonneg x (show (2147483629:Int)≠0 by decide)
  have e1:=Int.emod_lt_of_pos x (show (0:Int) < 2147483629 by decide)
  refine ⟨_,rfl,_,_,rfl,rfl,(show (0:Int) < 2147483629 by decide),_,rfl,_,_,rfl,rfl,.inl ⟨by decide,by decide⟩,_,_,rfl,rfl,_,_,rfl,rfl,_,_,rfl,rfl,.inr ⟨by decide,by decide⟩,_,_,rfl,rfl,(show (0:Int) < 2147483647 by decide),?_⟩
  have w0:=Int.emod_nonneg ((x % 2147483629 + 104729 * a + 1) * 48271) (show (2147483647:Int)≠0 by decide)
  have w1:=Int.emod_lt_of_pos ((x % 2147483629 + 104729 * a + 1) * 48271) (show (0:Int) < 2147483647 by decide)
  generalize (x % 2147483629 + 104729 * a + 1) * 48271 % 2147483647=y at w0 w1
  refine ⟨_,rfl,_,rfl,_,_,rfl,rfl,.inl ⟨by omega,by omega⟩,_,rfl,_,_,rfl,rfl,.inl ⟨by decide,by decide⟩,_,_,rfl,rfl,_,rfl,_,_,rfl,rfl,_,_,rfl,rfl,(show (0:Int) < 2147483587 by decide),?_⟩
  have u0:=Int.emod_nonneg (y * y + 69621 * y + a) (show (2147483587:Int)≠0 by decide)
  have u1:=Int.emod_lt_of_pos (y * y + 69621 * y + a) (show (0:Int) < 2147483587 by decide)
  generalize (y * y + 69621 * y + a) % 2147483587=z at u0 u1
  refine ⟨_,rfl,_,rfl,_,_,rfl,rfl,(show (0:Int) < 65521 by decide),_,_,rfl,rfl,_,_,rfl,rfl,.inl ⟨by omega,by omega⟩,_,_,rfl,rfl,(show (0:Int) < 2147483579 by decide),?_⟩
  refine ⟨_,rfl,_,_,rfl,rfl,⟨by decide,by decide⟩,_,rfl,_,_,rfl,rfl,hm,?_⟩
  exact k _ _ (Int.emod_nonneg _ (by omega)) (Int.emod_lt_of_pos _ hm) pen1 x1
def lowF (t b:Int):Int × Int:=(t / gI t b,b / gI t b)
def qgm:Sp:=fun vs H Q _=>∃ t b:Int,vs=[.int t,.int b]/\0≤t/\0 < b/\Bt 8000 b/\∀ v H',Same H H'->PrAt H' v (lowF t b)->Q v H'
theorem qiD (C_l_measure:Cal P w K mg base "_law_measure" ["_law_a", "_law_b"] 1 qdL)(F:FunAt K mg "_law_lowest" ["_law_top", "_law_bottom"] s_l_lowest):Cal P w K mg base "_law_lowest" ["_law_top", "_law_bottom"] 2 qgm:=by
 have S:=qda
 refine F.cal qda (fun vs H Q E h=>?_) (fun f cdv A outer s H vs Q E hr h=>?_)
 ·obtain ⟨t,b,rfl,_⟩:=h; rfl
 obtain ⟨t,b,rfl,ht,hb,bb,k⟩:=h
 refine ⟨_,(@pK _ _ _ _ _ (@pZ _ _ (2) _ _ _ _ (by exact S.nd) ⋯ ⋯ (@cc _ _ _ _ _ _ _ _ _ _ (by exact C_l_measure) (by exact (hr.mono (by decide))) (@pC _ _ _ _ _ (pv 0) (@pC _ _ _ _ _ (pv 1) pN ⋯) ⋯) ⋯ ⋯ ⋯ ⋯) ⋯ ⋯) (@pO _ _ _ (@qan _ _ _ _ (@qag _ _ _ _ _ (@pC _ _ _ _ _ (@pP _ _ _ _ _ _ _ _ qaN (pv 0) (pv 2)) (@pC _ _ _ _ _ (@pP _ _ _ _ _ _ _ _ qaN (pv 1) (pv 2)) pN ⋯) ⋯))))),?_⟩
 have g0:=qaM (a:=t) (b:=b) (by omega)
 have gb:Bt 8000 (gI t b):=bb.gr (by omega)
 refine ⟨_,rfl,_,rfl,_,_,rfl,ht,by omega,?_⟩
 refine ⟨_,rfl,_,rfl,_,_,rfl,rfl,⟨g0,gb⟩,_,rfl,_,rfl,_,_,rfl,rfl,⟨g0,gb⟩,lz 2 rfl,fun p hp=>?_⟩
 exact k _ _ (sN hp _) ⟨p,rfl,uS⟩
theorem qbX {α:Type}(f:Nat->α)(i:Nat):(List.range (i + 1)).map f=(List.range i).map f ++ [f i]:=by
 rw [List.range_succ,List.map_append]; rfl
theorem joinA {C R:Addr->Hp->Prop}{G:Prop}(main:(∀ a h,C a h->R a h)->G)(key:∀ a h,C a h->R a h):G:=main key
end
end My
namespace My
open PySem L2 MA Srt
theorem Shs.snoc {H:Hp}{v:V}{q:Rat}(h:ShAt H v q):∀ {xs:List V} {qs:List Rat},Shs H xs qs->Shs H (xs ++ [v]) (qs ++ [q])
 | _,_,.nil => .cons h .nil
 | _,_,.cons r t => .cons r (Shs.snoc h t)
theorem Shs.length {H:Hp}{xs:List V}{qs:List Rat}(h:Shs H xs qs):xs.length=qs.length:=Paired.length h
abbrev prq (q:Rat):Int × Int:=(q.num,(q.den:Int))
theorem low_q {t b:Int}(hb:0 < b):lowF t b=prq (Rat.divInt t b):=by
 have:=qbu (t:=t) hb
 unfold lowF prq
 rw [this.1,this.2]
def qaB (t:Int)(bs:List Int):Int × Int:=bs.foldl (fun s x=>(s.1 / gI s.1 x,s.2 * (x / gI s.1 x))) (t,1)
theorem qiw (q:Rat){x:Int}(hx:0 < x){t b:Int}(hb:0 < b)(e:q=Rat.divInt t b):(q.num / gI q.num x,(q.den:Int) * (x / gI q.num x))=prq (Rat.divInt t (b * x)):=by
 have d0:(0:Int) < (q.den:Int):=by have:=q.den_pos; omega
 have e2:Rat.divInt t (b * x)=Rat.divInt q.num ((q.den:Int) * x):=by
  rw [Rat.divInt_eq_divInt_iff (by have:=Int.mul_pos hb hx; omega) (by have:=Int.mul_pos d0 hx; omega)]
  have h1:q.num * b=t * (q.den:Int):=by
   have:=(Rat.divInt_eq_divInt_iff (n₁:=q.num) (n₂:=t) (d₁:=(q.den:Int)) (d₂:=b) (by omega) (by omega)).mp (by rw [<- e]; exact Rat.num_divInt_den q)
   exact this
  rw [<- Int.mul_assoc,<- h1]; rw [Int.mul_assoc]
 have sp:=qbu (t:=q.num) (Int.mul_pos d0 hx)
 have eg:gI q.num ((q.den:Int) * x)=gI q.num x:=by
  unfold gI
  congr 1
  show q.num.natAbs.gcd ((q.den:Int) * x).natAbs=q.num.natAbs.gcd x.natAbs
  rw [Int.natAbs_mul]
  exact Nat.Coprime.gcd_mul_left_cancel_right _ (by simpa using q.reduced.symm)
 rw [eg] at sp
 rw [e2]
 unfold prq
 rw [<- sp.1,<- sp.2]
 congr 1
 exact (Int.mul_ediv_assoc _ (qbI q.num x)).symm
theorem qgJ {t:Int}:∀ (n:Nat) (bs:List Int),bs.length=n->(∀ b∈bs,0 < b)->qaB t bs=prq (Rat.divInt t bs.prod)
 | 0,bs,h,_=>by
  have:bs=[]:=List.length_eq_zero_iff.mp h
  subst this
  have:=qbu (t:=t) (b:=1) (by decide)
  show (t,1)=_
  unfold prq
  rw [List.prod_nil,<- this.1,<- this.2]
  have:gI t 1=1:=by unfold gI; simp
  rw [this,Int.ediv_one]; rfl
 | n + 1,bs,h,hb=>by
  obtain ⟨l,x,rfl⟩:∃ l x,bs=l ++ [x]:=by
   rcases List.eq_nil_or_concat bs with e | ⟨l,r,e⟩
   ·subst e; simp at h
   ·exact ⟨l,r,by rw [e,List.concat_eq_append]⟩
  have ih:=qgJ (t:=t) n l (by simpa using h) fun b hb'=>hb b (by simp [hb'])
  have e:qaB t (l ++ [x])=((qaB t l).1 / gI (qaB t l).1 x,(qaB t l).2 * (x / gI (qaB t l).1 x)):=by unfold qaB; rw [List.foldl_append]; rfl
  have hp:0 < l.prod:=by
   have:∀ (l:List Int),(∀ b∈l,0 < b)->0 < l.prod:=by
    intro l
    induction l with
    | nil=>intro _; simp
    | cons a l ih=>intro h; rw [List.prod_cons]; exact Int.mul_pos (h a (by simp)) (ih fun b hb=>h b (by simp [hb]))
   exact this l fun b hb'=>hb b (by simp [hb'])
  rw [e,ih,List.prod_append,List.prod_cons,List.prod_nil,Int.mul_one]
  exact qiw _ (hb x (by simp)) hp rfl
abbrev Spd:=List (List Int × Rat)
def RwAt (H:Hp)(v:V)(r:List Int × Rat):Prop:=∃ a b v2,v = .ref a/\H a=some (.tup [.ref b,v2])/\H b=some (.tup (iv r.1))/\ShAt H v2 r.2
def SpAt (H:Hp)(l:Addr)(rs:Spd):Prop:=∃ xs,H l=some (.lst xs)/\Paired (RwAt H) xs rs
theorem RwAt.imp {H H':Hp}{v:V}{r:List Int × Rat}(k:∀ b xs,H b=some (.tup xs)->H' b=some (.tup xs))(h:RwAt H v r):RwAt H' v r:=by
 obtain ⟨a,b,v2,e,h1,h2,c,e2,h3⟩:=h
 exact ⟨a,b,v2,e,k _ _ h1,k _ _ h2,c,e2,k _ _ h3⟩
theorem SpAt.same {H H':Hp}{l:Addr}{rs:Spd}(s:Same H H')(h:SpAt H l rs):SpAt H' l rs:=let ⟨xs,e,r⟩:=h; ⟨xs,s _ _ e,Paired.mapP r fun _ _ z=>z.imp fun b xs e=>s b _ e⟩
theorem SpAt.sameX {H H':Hp}{p l:Addr}{rs:Spd}{kvs:List (Key × V)}(hp:H p=some (.dK kvs))(s:qa9 p H H')(h:SpAt H l rs):SpAt H' l rs:=by
 obtain ⟨xs,e,r⟩:=h
 have k:∀ {b:Addr} {o:HO},H b=some o->(∀ kvs,o ≠ .dK kvs)->H' b=some o:=fun {b o} e z=>s.1 b o e (fun q=>by subst q; rw [hp] at e; cases e; exact z _ rfl)
 exact ⟨xs,k e (fun _ z=>by cases z),Paired.mapP r fun _ _ z=>z.imp fun b xs e=>k e (fun _ z=>by cases z)⟩
def sprF (m:Mp)(W:Int):Spd:=(rise (qac m)).map fun k=>(k,Rat.divInt (getM m k) W)
section
variable {P:Program}{w:World}{K:PySem.W.Frag}{mg:Str->Option Value}{base:Heap}
def qgl:Sp:=fun vs H Q _=>∃ (t:Int) (l:Addr) (bs:List Int),vs=[.int t,.ref l]/\H l=some (.lst (bs.map V.int))/\(∀ b∈bs,0 < b/\b < 500000000)/\∀ v H',Same H H'->PrAt H' v (qaB t bs)->Q v H'
theorem qe1 {t:Int}{bs:List Int}{i:Nat}{b:Int}(h:bs[i]?=some b):qaB t (bs.take (i + 1))=((qaB t (bs.take i)).1 / gI (qaB t (bs.take i)).1 b,(qaB t (bs.take i)).2 * (b / gI (qaB t (bs.take i)).1 b)):=by
 unfold qaB
 rw [List.take_add_one,h,List.foldl_append]
 rfl
theorem qiC (C_measure:Cal P w K mg base "measure" ["a", "b"] 1 qbF)(F:FunAt K mg "parted" ["top", "bottoms"] s_parted):Cal P w K mg base "parted" ["top", "bottoms"] 2 qgl:=by
 have S:=qeU
 refine F.cal qeU (fun vs H Q E h=>?_) (fun f cdv A outer s H vs Q E hr h=>?_)
 ·obtain ⟨t,l,bs,rfl,_⟩:=h; rfl
 obtain ⟨t,l,bs,rfl,hl,hb,k⟩:=h
 refine ⟨_,(@pK _ _ _ _ _ (@pZ _ _ (2) _ _ _ _ (by exact S.nd) ⋯ ⋯ pI ⋯ ⋯) (@pK _ _ _ _ _ (@qbd _ _ _ _ _ _ _ _ (by exact PassesOwn.never) ⋯ (@qa5 _ _ _ _ (pv 1)) (@pG _ _ (3) _ (by exact S.nd) ⋯ ⋯ ⋯) (@pK _ _ _ _ _ (@pZ _ _ (4) _ _ _ _ (by exact S.nd) ⋯ ⋯ (@cc _ _ _ _ _ _ _ _ _ _ (by exact C_measure) (by exact (hr.mono (by decide))) (@pC _ _ _ _ _ (pv 0) (@pC _ _ _ _ _ (pv 3) pN ⋯) ⋯) ⋯ ⋯ ⋯ ⋯) ⋯ ⋯) (@pK _ _ _ _ _ (@pZ _ _ (0) _ _ _ _ (by exact S.nd) ⋯ ⋯ (@pP _ _ _ _ _ _ _ _ qaN (pv 0) (pv 4)) ⋯ ⋯) (@pO _ _ _ (@pZ _ _ (2) _ _ _ _ (by exact S.nd) ⋯ ⋯ (@pP _ _ _ _ _ _ _ _ qcj (pv 2) (@pP _ _ _ _ _ _ _ _ qaN (pv 3) (pv 4))) ⋯ ⋯)))) ⋯) (@pO _ _ _ (@qan _ _ _ _ (@qag _ _ _ _ _ (@pC _ _ _ _ _ (pv 0) (@pC _ _ _ _ _ (pv 2) pN ⋯) ⋯)))))),?_⟩
 refine ⟨_,rfl,l,rfl,⟨_,SqL.of hl⟩,qew (xs:=bs.map V.int) (fun i σ H'=>H'=H/\∃ o1 o2,σ=[some (.int (qaB t (bs.take i)).1),some (.ref l),some (.int (qaB t (bs.take i)).2),o1,o2]) ⟨rfl,_,_,rfl⟩ (fun i σ H2 _ ⟨e,_⟩=>by rw [e]; exact SqL.of hl) ?_ ?_⟩
 ·rintro i y σ H' hi ⟨rfl,o1,o2,rfl⟩
  rw [List.getElem?_map] at hi
  cases hbi:bs[i]? with
  | none=>rw [hbi] at hi; cases hi
  | some b =>
   rw [hbi] at hi
   cases hi
   obtain ⟨b0,b1⟩:=hb b (List.mem_of_getElem? hbi)
   have g0:=qaM (a:=(qaB t (bs.take i)).1) (b:=b) (by omega)
   have bb:Bt 29 b:=intBits_le_iff.mpr (by show b.natAbs < 2 ^ 29; have:(2:Nat) ^ 29=536870912:=rfl; omega)
   have gb:Bt 8000 (gI (qaB t (bs.take i)).1 b):=(bb.gr (by omega)).mono (by decide)
   have q0:0≤b / gI (qaB t (bs.take i)).1 b:=Int.ediv_nonneg (by omega) (by omega)
   have q1:b / gI (qaB t (bs.take i)).1 b≤b:=Int.ediv_le_self _ (by omega)
   refine ⟨_,rfl,_,rfl,_,_,rfl,?_⟩
   refine ⟨_,rfl,_,rfl,_,_,rfl,rfl,⟨g0,gb⟩,?_⟩
   refine ⟨_,rfl,_,rfl,_,rfl,_,_,rfl,rfl,⟨g0,gb⟩,_,_,rfl,rfl,.inr ⟨by omega,by omega⟩,rfl,some (.int b),some (.int (gI (qaB t (bs.take i)).1 b)),?_⟩
   rw [qe1 hbi]
   rfl
 ·rintro σ H' ⟨rfl,o1,o2,rfl⟩
  rw [List.length_map,List.take_length]
  exact ⟨_,rfl,_,rfl,lz 2 rfl,fun p hp=>k _ _ (sN hp _) ⟨p,rfl,uS⟩⟩
end
def RwI (H:Hp)(v:V)(r:List Int × Int):Prop:=∃ a b,v = .ref a/\H a=some (.tup [.ref b,.int r.2])/\H b=some (.tup (iv r.1))
abbrev qjI (H:Hp)(xs:List V)(rows:Mp):Prop:=Paired (RwI H) xs rows
theorem RwI.imp {H H':Hp}{v:V}{r:List Int × Int}(k:∀ b xs,H b=some (.tup xs)->H' b=some (.tup xs))(h:RwI H v r):RwI H' v r:=let ⟨a,b,e,h1,h2⟩:=h; ⟨a,b,e,k _ _ h1,k _ _ h2⟩
theorem qhX {H:Hp}{d:Addr}{o:HO}(hd:H d=none):∀ b xs,H b=some (.tup xs)->upd H d o b=some (.tup xs):=fun b xs e=>by rw [uE (qab e hd)]; exact e
theorem qk7 (k:List Int):iv k=(k.map (Sum.inl:Int->Key)).map kV:=by rw [List.map_map]; rfl
theorem qi7 {rows:Mp}{i:Nat}{r:List Int × Int}(h:rows[i]?=some r):gath (rows.take (i + 1))=putM (gath (rows.take i)) r.1 (getM (gath (rows.take i)) r.1 + r.2):=by
 rw [List.take_add_one,h]
 show gath (rows.take i ++ [r])=_
 rw [qct]; rfl
theorem qc3 (rows:Mp):(gath rows).length≤rows.length:=by
 have:∀ (rows m:Mp),(rows.foldl addM m).length≤m.length + rows.length:=by
  intro rows
  induction rows with
  | nil=>intro m; simp
  | cons r rows ih =>
   intro m
   rw [List.foldl_cons]
   have h1:=ih (addM m r)
   have h2:(addM m r).length≤m.length + 1:=by
    unfold addM putM
    split
    ·simp
    ·simp
   rw [List.length_cons]; omega
 have:=this rows []
 simpa [gath] using this
section
variable {P:Program}{w:World}{K:PySem.W.Frag}{mg:Str->Option Value}{base:Heap}
def qdM:Sp:=fun vs H Q _=>∃ (l:Addr) (xs:List V) (rows:Mp),vs=[.ref l]/\H l=some (.lst xs)/\qjI H xs rows/\rows.length≤100000/\∀ (d:Addr) (H':Hp),Same H H'->H d=none->H' d=some (dI (gath rows))->Q (.ref d) H'
theorem qfV (F:FunAt K mg "gathered" ["rows"] s_gathered):Cal P w K mg base "gathered" ["rows"] 1 qdM:=by
 have S:=qdc
 refine F.cal qdc (fun vs H Q E h=>?_) (fun f cdv A outer s H vs Q E hr h=>?_)
 ·obtain ⟨l,xs,rows,rfl,_⟩:=h; rfl
 obtain ⟨l,xs,rows,rfl,hl,hr',hz,k⟩:=h
 have hu1:=qhA hr
 have xl:=Paired.length hr'
 refine ⟨_,(@pK _ _ _ _ _ (@pZ _ _ (1) _ _ _ _ (by exact S.nd) ⋯ ⋯ qei ⋯ ⋯) (@pK _ _ _ _ _ (@qbd _ _ _ _ _ _ _ _ (by exact PassesOwn.never) ⋯ (@qa5 _ _ _ _ (pv 0)) (@qcT _ _ _ _ _ _ ⋯ (@qaf _ _ _ _ _ (@pG _ _ (2) _ (by exact S.nd) ⋯ ⋯ ⋯) (@qaf _ _ _ _ _ (@pG _ _ (3) _ (by exact S.nd) ⋯ ⋯ ⋯) qaX ⋯) ⋯) ⋯ ⋯) (@pO _ _ _ (@qdf _ _ _ _ _ _ _ _ _ (by exact hu1) (pv 1) (pv 2) (@pP _ _ _ _ _ _ _ _ qaP (@qgH _ _ _ _ _ _ _ _ _ (by exact hu1) (pv 1) (pv 2) pI (by exact ⟨rfl,rfl,rfl,rfl⟩)) (pv 3)) ⋯)) ⋯) (@pO _ _ _ (@qan _ _ _ _ (pv 1))))),?_⟩
 intro d hd
 refine ⟨_,rfl,l,rfl,⟨_,SqL.of (by rw [uE (qab hl hd)]; exact hl)⟩,qew (xs:=xs) (fun i σ H'=>H'=upd H d (dI (gath (rows.take i)))/\∃ o1 o2,σ=[some (.ref l),some (.ref d),o1,o2]) ⟨rfl,_,_,rfl⟩ ?_ ?_ ?_⟩
 ·rintro i σ H' _ ⟨rfl,_⟩
  exact SqL.of (by rw [uE (qab hl hd)]; exact hl)
 ·rintro i x σ H' hxi ⟨rfl,o1,o2,rfl⟩
  obtain ⟨r,hri,a,b,rfl,ha,hb⟩:=qah hr' hxi
  have ha':=qhX (o:=dI (gath (rows.take i))) hd _ _ ha
  have hb':=qhX (o:=dI (gath (rows.take i))) hd _ _ hb
  rw [qk7] at hb'
  refine ⟨a,_,rfl,SqT.of ha',rfl,_,_,rfl,_,_,rfl,rfl,?_⟩
  refine ⟨_,rfl,d,rfl,.inr ⟨_,.inl uS⟩,_,rfl,_,DGet.t uS hb',?_⟩
  rw [qeI]
  refine ⟨_,rfl,_,_,rfl,rfl,_,rfl,_,rfl,d,_,rfl,DPut.t uS hb' ?_,?_⟩
  ·rw [List.length_map]
   have:=qc3 (rows.take i)
   rw [List.length_take] at this
   rw [sizeLine_eq]; omega
  ·rw [qfL,qd5]
   exact ⟨by rw [qi7 hri]; rfl,_,_,rfl⟩
 ·rintro σ H' ⟨rfl,o1,o2,rfl⟩
  rw [xl,List.take_length]
  exact ⟨_,rfl,k d _ (sN hd _) hd uS⟩
end
def fI (p:List Int × Int):List Int × V:=(p.1,.int p.2)
theorem qmw (m:Mp):HO.dT ((m.map fI).map kI)=dI m:=by unfold dI; rw [List.map_map]; rfl
theorem qfE {m:Mp}(nd:(qac m).Nodup){rs:List (List Int × V)}(h:rs.Perm (m.map fI))(hr:qcY (rs.map (·.1))):rs=(rise (qac m)).map fun k=>(k,V.int (getM m k)):=by
 have e1:rs.map (·.1)=rise (qac m):=by
  refine qfH ?_ hr
  have:=h.map (·.1)
  rwa [List.map_map] at this
 rw [<- e1,List.map_map]
 conv=>lhs; rw [<- List.map_id rs]
 refine List.map_congr_left fun r hr'=>?_
 obtain ⟨p,hp,rfl⟩:=List.mem_map.mp (h.mem_iff.mp hr')
 show fI p=(p.1,V.int (getM m p.1))
 rw [qbf nd hp]; rfl
theorem tupL {H:Hp}{p:Addr}{ys:List V}{o:HO}(h:H p=some (.lst ys)):∀ b xs,H b=some (.tup xs)->upd H p o b=some (.tup xs):=fun b xs e=>by rw [uE (qb2 e h (by intro z; cases z))]; exact e
theorem tT_ {σ:St}{H:Hp}{Q:Bool->Hp->Prop}(h:Q true H):tTT σ H Q:=h
theorem none_of {H H':Hp}{p:Addr}(s:Same H H')(h:H' p=none):H p=none:=by
 cases e:H p with
 | none=>rfl
 | some o=>rw [s _ _ e] at h; cases h
theorem qaC {α β:Type}{F:α->β->Prop}{xs:List α}{ys:List β}{x:α}{y:β}(h:Paired F xs ys)(r:F x y):Paired F (xs ++ [x]) (ys ++ [y]):=Paired.snoc h r
theorem take_snoc {α:Type}{l:List α}{i:Nat}{x:α}(h:l[i]?=some x):l.take (i + 1)=l.take i ++ [x]:=by rw [List.take_add_one,h]; rfl
section
variable {P:Program}{w:World}{K:PySem.W.Frag}{mg:Str->Option Value}{base:Heap}
def qdK:Sp:=fun vs H Q _=>∃ (d lb:Addr) (m:Mp) (bs:List Int),vs=[.ref d,.ref lb]/\H d=some (dI m)/\H lb=some (.lst (iv bs))/\(qac m).Nodup/\m.length < 65536/\(∀ b∈bs,0 < b/\b < 500000000)/\∀ (l:Addr) (H':Hp),Same H H'->H l=none->SpAt H' l (sprF m bs.prod)->Q (.ref l) H'
theorem qfT (T:Txt2 mg)(C_parted:Cal P w K mg base "parted" ["top", "bottoms"] 2 qgl)(F:FunAt K mg "spread_of" ["weights", "bottoms"] s_spread_of):Cal P w K mg base "spread_of" ["weights", "bottoms"] 3 qdK:=by
 have S:=qcR
 refine F.cal qcR (fun vs H Q E h=>?_) (fun f cdv A outer s H vs Q E hr h=>?_)
 ·obtain ⟨d,lb,m,bs,rfl,_⟩:=h; rfl
 obtain ⟨d,lb,m,bs,rfl,hd,hb,nd,few,hbs,k⟩:=h
 have hu2:=qla hr
 refine ⟨_,(@pO _ _ _ (@qan _ _ _ _ (@qcF _ _ _ _ _ _ _ _ _ _ _ _ _ ⋯ (by exact (fun _ _ h=>h)) (by decide +kernel) ⋯ (by decide +kernel) (by exact qbH rfl) (by exact Sees.frees ["load", "weight"] [("bottoms",1)] (qaI ⟨rfl,rfl⟩ qbJ)) (@qa5 _ _ _ _ (@qak _ _ _ _ _ _ _ _ _ (qcX ⋯ hu2) ⋯ (by exact T.z_sorted) (by exact qdy) (@pC _ _ _ _ _ (@qgG _ _ _ _ _ (pv 0) ⋯ ⋯) pN ⋯) ⋯ ⋯ ⋯ ⋯)) (fun _ _ _ _ _ => @qb0 _ _ _ _ _ (2) ⋯ (@qaf _ _ _ _ _ (@pG _ _ (0) _ (by exact (show (["load", "weight", "bottoms"]:List Str).Nodup by decide +kernel)) ⋯ ⋯ ⋯) (@qaf _ _ _ _ _ (@pG _ _ (1) _ (by exact (show (["load", "weight", "bottoms"]:List Str).Nodup by decide +kernel)) ⋯ ⋯ ⋯) qaX ⋯) ⋯) ⋯ ⋯) (fun _ _ _ _ _=>qbi) (fun _ _ _ _ _=>(@qag _ _ _ _ _ (@pC _ _ _ _ _ (pv 0) (@pC _ _ _ _ _ (@cc _ _ _ _ _ _ _ _ _ _ (by exact C_parted) (by exact (hr.mono (by decide))) (@pC _ _ _ _ _ (pv 1) (@pC _ _ _ _ _ (pv 2) pN ⋯) ⋯) ⋯ ⋯ ⋯ ⋯) pN ⋯) ⋯))) ⋯))),?_⟩
 refine ⟨_,rfl,d,_,rfl,.inl hd,fun v hv=>?_⟩
 have s1:=sN hv (itV v d)
 refine ⟨v,d,m.map fI,rfl,uS,.inl (by rw [qmw]; exact s1 _ _ hd),by simpa using few,fun H2 q as rs s2 hq pm ri pr=>?_⟩
 have e:=qfE nd pm ri
 subst e
 have s3:=sN hq (.lst (as.map V.ref))
 have sA:=s1.trans (s2.trans s3)
 have al:as.length=(rise (qac m)).length:=by have:=Paired.length pr; simpa using this
 have kl:(rise (qac m)).length=m.length:=by rw [(qaS _).length_eq]; simp [qac]
 refine ⟨q,rfl,⟨_,SqL.of uS⟩,qcW (qaF (xs:=as.map V.ref)) (fun p i ys σ' H'=>Same (upd H2 q (.lst (as.map V.ref))) H'/\(∃ o1 o2,σ'=[o1,o2,some (.ref lb)])/\ys.length=i/\Paired (RwAt H') ys ((sprF m bs.prod).take i)) (by simp; omega) ?_ ?_ ?_ ?_⟩
 ·intro p hp
  exact ⟨sN hp _,⟨_,_,rfl⟩,rfl,.nil⟩
 ·rintro p i ys σ' H' hp ⟨s',_⟩
  exact s' _ _ uS
 ·rintro p i ys σ' H' x H'' hp hi hl ⟨s',⟨o1,o2,rfl⟩,yl,pr'⟩ hp' ⟨rfl,hx⟩ Q1 Q2 h1 h2
  rw [List.getElem?_map,Option.map_eq_some_iff] at hx
  obtain ⟨a,ha,rfl⟩:=hx
  obtain ⟨r,hri,b,hb1,hb2,hb3⟩:=qah pr ha
  rw [List.getElem?_map,Option.map_eq_some_iff] at hri
  obtain ⟨kk,hk1,rfl⟩:=hri
  have ha':=(s3.trans s') _ _ hb3
  have hb':=(s2.trans (s3.trans s')) _ _ hb1
  refine ⟨a,_,rfl,ha',rfl,_,_,rfl,_,_,rfl,rfl,?_⟩
  refine tT_ (iteT ?_)
  refine ⟨_,rfl,_,rfl,_,rfl,_,lb,bs,rfl,(sA.trans s') _ _ hb,hbs,fun v2 H5 s5 pa=>?_⟩
  rw [qgJ _ bs rfl fun b hb=>(hbs b hb).1] at pa
  refine ⟨lz 2 rfl,fun t ht=>h1 _ _ _ ?_ ?_⟩
  ·exact sN ht _ _ _ (s5 _ _ hp')
  ·have s6:=sN ht (.tup [.ref b,v2])
   have hp6:=s6 _ _ (s5 _ _ hp')
   refine ⟨qa8 hp (s'.trans (s5.trans s6)) _,⟨_,_,rfl⟩,by simp [yl],?_⟩
   have hs:(sprF m bs.prod)[i]?=some (kk,Rat.divInt (getM m kk) bs.prod):=by unfold sprF; rw [List.getElem?_map,hk1]; rfl
   rw [take_snoc hs]
   refine qaC (Paired.mapP pr' fun _ _ z=>z.imp fun b xs e=>tupL hp6 _ _ ((s5.trans s6) _ _ e)) ⟨t,b,v2,rfl,tupL hp6 _ _ uS,tupL hp6 _ _ ((s5.trans s6) _ _ hb'),?_⟩
   obtain ⟨c,e2,h3⟩:=pa
   exact ⟨c,e2,tupL hp6 _ _ (s6 _ _ h3)⟩
 ·rintro p ys σ' H' hp ⟨s',_,yl,pr'⟩ hp' hl
  refine k p H' (sA.trans s') ?_ ⟨ys,hp',?_⟩
  ·exact none_of sA hp
  ·rw [List.length_map,al] at pr'
   have:(sprF m bs.prod).length=(rise (qac m)).length:=by simp [sprF]
   rw [<- this,List.take_length] at pr'
   exact pr'
end
end My
namespace My
open PySem L2 MA Srt PySem.Spec
def qbc (H:Hp)(v:V)(n:Nat)(ps:List (Int × Int))(t:Str):Prop:=∃ a b xs,v = .ref a/\H a=some (.tup [.int n,.ref b,.str t])/\H b=some (.tup xs)/\Prs H xs ps
theorem qbc.same {H H':Hp}{v:V}{n:Nat}{ps:List (Int × Int)}{t:Str}(h:qbc H v n ps t)(s:Same H H'):qbc H' v n ps t :=
 let ⟨a,b,xs,e,h1,h2,h3⟩:=h; ⟨a,b,xs,e,s _ _ h1,s _ _ h2,h3.same s⟩
theorem PrAt.sameX {H H':Hp}{p:Addr}{m:Nat}{v:V}{q:Int × Int}(h:PrAt H v q)(hp:Pen H p m)(s:qa9 p H H'):PrAt H' v q:=by
 obtain ⟨a,e,ha⟩:=h
 exact ⟨a,e,hp.keep s ha⟩
theorem Prs.sameX {H H':Hp}{p:Addr}{m:Nat}(hp:Pen H p m)(s:qa9 p H H'):∀ {xs:List V} {ps:List (Int × Int)},Prs H xs ps->Prs H' xs ps
 | _,_,.nil => .nil
 | _,_,.cons r t => .cons (PrAt.sameX r hp s) (Prs.sameX hp s t)
theorem qbc.sameX {H H':Hp}{p:Addr}{m:Nat}{v:V}{n:Nat}{ps:List (Int × Int)}{t:Str}(h:qbc H v n ps t)(hp:Pen H p m)(s:qa9 p H H'):qbc H' v n ps t :=
 let ⟨a,b,xs,e,h1,h2,h3⟩:=h; ⟨a,b,xs,e,hp.keep s h1,hp.keep s h2,Prs.sameX hp s h3⟩
theorem qiG {H H3:Hp}{p l:Addr}{n:Nat}(x:qa9 p H H3)(hp:Pen H3 p n)(hl:H3 l=none):H l=none:=by
 cases e:H l with
 | none=>rfl
 | some o =>
  by_cases c:l=p
  ·obtain ⟨kvs,h⟩:=hp.dk
   rw [c,h] at hl; cases hl
  ·rw [x.all l o e c] at hl; cases hl
theorem qiX {ns:List Int}{i:Int}(h0:0≤i)(h1:i < ns.length):∃ y∈ns,atI (iv ns) i=some (.int y):=by
 obtain ⟨j,rfl⟩:∃ j:Nat,i=(j:Int):=⟨i.toNat,by omega⟩
 have hj:j < ns.length:=by omega
 exact ⟨ns[j],List.getElem_mem hj,by rw [qaW hj,qaa hj]⟩
def Tie (t:Str):Prop:=t = "left" \/ t = "dice"
theorem qgg {i:Int}(h0:0≤i)(h1:i < 2):∃ t,Tie t/\atI [V.str "left",V.str "dice"] i=some (.str t):=by
 rcases (show i=0\/i=1 by omega) with rfl | rfl
 ·exact ⟨_,.inl rfl,rfl⟩
 ·exact ⟨_,.inr rfl,rfl⟩
def Few (n:Nat)(ps:List (Int × Int)):Prop:=∀ q∈ps,0≤q.1/\q.1 < n/\0≤q.2/\q.2 < n
def qmS:Sp:=fun vs H Q _=>∃ (p:Addr) (n m:Nat),vs=[.ref p,.int n]/\Pen H p m/\m < 60000/\1≤n/\n≤6/\∀ v ps t H',qbc H' v n ps t->1≤ps.length->ps.length≤40->Few n ps->Tie t->Pen H' p (m + 300)->qa9 p H H'->Q v H'
section
variable {P:Program}{w:World}{K:PySem.W.Frag}{mg:Str->Option Value}{base:Heap}
theorem qnl {a:Nat}(h:a + 5 < 100000)(k:Nat)(hk:k≤5):a + k < 100000:=by omega
theorem pick5 {n:Int}{e1 e2 e3 a e4 y:Int}(h:y∈[e1,e2,e3,a,e4])(h1:0≤e1/\e1 < n)(h2:0≤e2/\e2 < n)(h3:0≤e3/\e3 < n)(h4:0≤a/\a < n)(h5:0≤e4/\e4 < n):0≤y/\y < n:=by
 simp only [List.mem_cons,List.not_mem_nil,or_false] at h
 rcases h with rfl | rfl | rfl | rfl | rfl
 ·exact h1
 ·exact h2
 ·exact h3
 ·exact h4
 ·exact h5
theorem pickM {n:Nat}{d3 d4 M:Int}(h:M∈[1 + d3,1 + d4,40,(n:Int),1])(a:0≤d3)(b:d3 < 5)(c:0≤d4)(d:d4 < 40)(n1:1≤n)(n6:n≤6):1≤M/\M≤40:=by
 simp only [List.mem_cons,List.not_mem_nil,or_false] at h
 omega
theorem qnf (T:Txt2 mg)(C_l_draw:Cal P w K mg base "_law_draw" ["_law_pen_here", "_law_many"] 1 qgo)(F:FunAt K mg "_law_net" ["_law_pen_here", "_law_n"] s_l_net):Cal P w K mg base "_law_net" ["_law_pen_here", "_law_n"] 2 qmS:=by
 have S:=qgw
 refine F.cal qgw (fun vs H Q E h=>?_) (fun f cdv A outer s H vs Q E hr h=>?_)
 ·obtain ⟨p,n,m,rfl,_⟩:=h; rfl
 obtain ⟨p,n,m,rfl,hp,hm,n1,n6,k⟩:=h
 refine ⟨_,(@pK _ _ _ _ _ (@pZ _ _ (2) _ _ _ _ (by exact S.nd) ⋯ ⋯ (@cc _ _ _ _ _ _ _ _ _ _ (by exact C_l_draw) (by exact (hr.mono (by decide))) (@pC _ _ _ _ _ (pv 0) (@pC _ _ _ _ _ pI pN ⋯) ⋯) ⋯ ⋯ ⋯ ⋯) ⋯ ⋯) (@pK _ _ _ _ _ (@pZ _ _ (3) _ _ _ _ (by exact S.nd) ⋯ ⋯ (@qaw _ _ _ _ _ _ _ qaQ (@qaG _ _ _ _ (@pC _ _ _ _ _ qav (@pC _ _ _ _ _ qav pN ⋯) ⋯)) (@cc _ _ _ _ _ _ _ _ _ _ (by exact C_l_draw) (by exact (hr.mono (by decide))) (@pC _ _ _ _ _ (pv 0) (@pC _ _ _ _ _ pI pN ⋯) ⋯) ⋯ ⋯ ⋯ ⋯) (by exact (fun _ _=>rfl))) ⋯ ⋯) (@pK _ _ _ _ _ (@pZ _ _ (4) _ _ _ _ (by exact S.nd) ⋯ ⋯ (@qaw _ _ _ _ _ _ _ qaQ (@qaG _ _ _ _ (@pC _ _ _ _ _ (@pP _ _ _ _ _ _ _ _ qaP pI (@cc _ _ _ _ _ _ _ _ _ _ (by exact C_l_draw) (by exact (hr.mono (by decide))) (@pC _ _ _ _ _ (pv 0) (@pC _ _ _ _ _ pI pN ⋯) ⋯) ⋯ ⋯ ⋯ ⋯)) (@pC _ _ _ _ _ (@pP _ _ _ _ _ _ _ _ qaP pI (@cc _ _ _ _ _ _ _ _ _ _ (by exact C_l_draw) (by exact (hr.mono (by decide))) (@pC _ _ _ _ _ (pv 0) (@pC _ _ _ _ _ pI pN ⋯) ⋯) ⋯ ⋯ ⋯ ⋯)) (@pC _ _ _ _ _ pI (@pC _ _ _ _ _ (pv 1) (@pC _ _ _ _ _ pI pN ⋯) ⋯) ⋯) ⋯) ⋯)) (pv 2) (by exact (fun _ _=>rfl))) ⋯ ⋯) (@pK _ _ _ _ _ (@pZ _ _ (5) _ _ _ _ (by exact S.nd) ⋯ ⋯ (@qaG _ _ _ _ pN) ⋯ ⋯) (@pK _ _ _ _ _ (@qbd _ _ _ _ _ _ _ _ (by exact PassesOwn.never) ⋯ (@qbl _ _ _ _ _ _ ⋯ (by exact T.z_range) (@pC _ _ _ _ _ (pv 4) pN ⋯) ⋯) (@pG _ _ (6) _ (by exact S.nd) ⋯ ⋯ ⋯) (@pK _ _ _ _ _ (@pZ _ _ (7) _ _ _ _ (by exact S.nd) ⋯ ⋯ (@cc _ _ _ _ _ _ _ _ _ _ (by exact C_l_draw) (by exact (hr.mono (by decide))) (@pC _ _ _ _ _ (pv 0) (@pC _ _ _ _ _ (pv 1) pN ⋯) ⋯) ⋯ ⋯ ⋯ ⋯) ⋯ ⋯) (@pO _ _ _ (@qbZ _ _ _ _ (@qiv _ _ _ _ _ _ _ _ _ _ _ _ (by exact PySem.F.plainAttrs_list) (by exact PySem.F.slot_list_append) (by exact PySem.F.type_list_append) qcl (pv 5) (@pC _ _ _ _ _ (@qag _ _ _ _ _ (@pC _ _ _ _ _ (pv 7) (@pC _ _ _ _ _ (@qaw _ _ _ _ _ _ _ qaQ (@qaG _ _ _ _ (@pC _ _ _ _ _ (@cc _ _ _ _ _ _ _ _ _ _ (by exact C_l_draw) (by exact (hr.mono (by decide))) (@pC _ _ _ _ _ (pv 0) (@pC _ _ _ _ _ (pv 1) pN ⋯) ⋯) ⋯ ⋯ ⋯ ⋯) (@pC _ _ _ _ _ (@cc _ _ _ _ _ _ _ _ _ _ (by exact C_l_draw) (by exact (hr.mono (by decide))) (@pC _ _ _ _ _ (pv 0) (@pC _ _ _ _ _ (pv 1) pN ⋯) ⋯) ⋯ ⋯ ⋯ ⋯) (@pC _ _ _ _ _ (@cc _ _ _ _ _ _ _ _ _ _ (by exact C_l_draw) (by exact (hr.mono (by decide))) (@pC _ _ _ _ _ (pv 0) (@pC _ _ _ _ _ (pv 1) pN ⋯) ⋯) ⋯ ⋯ ⋯ ⋯) (@pC _ _ _ _ _ (pv 7) (@pC _ _ _ _ _ (@cc _ _ _ _ _ _ _ _ _ _ (by exact C_l_draw) (by exact (hr.mono (by decide))) (@pC _ _ _ _ _ (pv 0) (@pC _ _ _ _ _ (pv 1) pN ⋯) ⋯) ⋯ ⋯ ⋯ ⋯) pN ⋯) ⋯) ⋯) ⋯) ⋯)) (pv 2) (by exact (fun _ _=>rfl))) pN ⋯) ⋯)) pN ⋯) ⋯ ⋯ ⋯ ⋯ ⋯) ⋯))) ⋯) (@pO _ _ _ (@qan _ _ _ _ (@qag _ _ _ _ _ (@pC _ _ _ _ _ (pv 1) (@pC _ _ _ _ _ (@qbv _ _ _ _ _ _ _ _ _ qbA ⋯ (by exact T.z_tuple) (by exact qeC) (@pC _ _ _ _ _ (pv 5) pN ⋯) ⋯ ⋯ ⋯ ⋯) (@pC _ _ _ _ _ (pv 3) pN ⋯) ⋯) ⋯))))))))),?_⟩
 refine ⟨_,rfl,p,_,m,rfl,hp,by omega,by decide,by decide,fun wy H1 w0 w5 p1 x1=>?_⟩
 refine ⟨lz 2 rfl,fun q1 hq1=>?_⟩
 have s1:=sN hq1 (.lst [V.str "left",V.str "dice"])
 have hq1':(upd H1 q1 (.lst [V.str "left",V.str "dice"])) q1=some (.lst [V.str "left",V.str "dice"]):=uS
 refine ⟨_,rfl,p,_,_,rfl,p1.same s1,by omega,by decide,by decide,fun d2 H2 d20 d21 p2 x2=>?_⟩
 have hq2:=(p1.same s1).keep x2 hq1'
 obtain ⟨t,ht,hat⟩:=qgg d20 d21
 refine ⟨q1,_,_,_,rfl,rfl,SqL.of hq2,hat,?_⟩
 have xA:=(x1.trans (Same.x s1)).trans x2
 refine ⟨_,rfl,p,_,_,rfl,p2,by omega,by decide,by decide,fun d3 H3 d30 d31 p3 x3=>⟨_,_,rfl,rfl,_,rfl,p,_,_,rfl,p3,by omega,by decide,by decide,fun d4 H4 d40 d41 p4 x4=>⟨_,_,rfl,rfl,_,rfl,lz 5 rfl,fun q2 hq2=>?_⟩⟩⟩
 have s4:=sN hq2 (.lst (iv [1 + d3,1 + d4,40,(n:Int),1]))
 obtain ⟨M,hM,hMat⟩:=qiX (ns:=[1 + d3,1 + d4,40,(n:Int),1]) w0 (by simpa using w5)
 refine ⟨_,rfl,q2,_,_,_,rfl,rfl,SqL.of uS,hMat,?_⟩
 have hM1:1≤M/\M≤40:=pickM hM d30 d31 d40 d41 n1 n6
 have xB:=((xA.trans x3).trans x4).trans (Same.x s4)
 have p5:=p4.same s4
 refine ⟨lz 0 rfl,fun l hl=>?_⟩
 have s5:=sN hl (.lst [])
 have hlH:H l=none:=qiG xB p5 hl
 refine ⟨_,rfl,_,rfl,by omega,by omega,qbK (fun i σ' H'=>∃ ys ps ok oa,σ'=[some (.ref p),some (.int n),some (.int wy),some (.str t),some (.int M),some (.ref l),ok,oa]/\Pen H' p (m + 4 + 5 * i)/\qa9 p H H'/\H' l=some (.lst ys)/\Prs H' ys ps/\ps.length=i/\Few n ps) ?_ ?_ ?_⟩
 ·exact ⟨[],[],none,none,rfl,p5.same s5,xB.trans (Same.x s5),uS,.nil,rfl,fun q hq=>by simp at hq⟩
 ·rintro i σ' H' hi ⟨ys,ps,ok,oa,rfl,pn,x,hl',pr,hlen,few⟩
  have hi40:i < 40:=by omega
  have hyl:=pr.length
  have nI:(0:Int) < n:=Int.natCast_pos.mpr n1
  have nJ:(n:Int) < 1073741824:=Int.lt_of_le_of_lt (Int.ofNat_le.mpr n6) (by decide)
  have mB:m + 4 + 5 * i + 5 < 100000:=by omega
  refine ⟨_,rfl,_,rfl,p,_,_,rfl,pn,qnl mB 0 (by decide),nI,nJ,fun a Ha a0 a1 pa xa=>?_⟩
  have ha:=pn.keep xa hl'
  refine ⟨_,rfl,.inl ⟨rfl,_,SqL.of ha⟩,_,rfl,?_⟩
  refine ⟨_,rfl,_,rfl,p,_,_,rfl,pa,qnl mB 1 (by decide),nI,nJ,fun e1 G1 e10 e11 g1 y1=>?_⟩
  refine ⟨_,rfl,_,rfl,p,_,_,rfl,g1,qnl mB 2 (by decide),nI,nJ,fun e2 G2 e20 e21 g2 y2=>?_⟩
  refine ⟨_,rfl,_,rfl,p,_,_,rfl,g2,qnl mB 3 (by decide),nI,nJ,fun e3 G3 e30 e31 g3 y3=>?_⟩
  refine ⟨_,rfl,_,rfl,_,rfl,p,_,_,rfl,g3,qnl mB 4 (by decide),nI,nJ,fun e4 G4 e40 e41 g4 y4=>?_⟩
  refine ⟨lz 5 rfl,fun q3 hq3=>?_⟩
  have yA:=(((xa.trans y1).trans y2).trans y3).trans y4
  have hl4:=pn.keep yA hl'
  have t1:=sN hq3 (.lst (iv [e1,e2,e3,a,e4]))
  obtain ⟨y,hy,hyat⟩:=qiX (ns:=[e1,e2,e3,a,e4]) w0 (by simpa using w5)
  refine ⟨_,rfl,q3,_,_,_,rfl,rfl,SqL.of uS,hyat,lz 2 rfl,fun c hc=>?_⟩
  have t2:=sN hc (.tup [.int a,.int y])
  have hy1:0≤y/\y < n:=pick5 hy ⟨e10,e11⟩ ⟨e20,e21⟩ ⟨e30,e31⟩ ⟨a0,a1⟩ ⟨e40,e41⟩
  have tt:=t1.trans t2
  have hl5:=tt _ _ hl4
  refine ⟨l,ys,_,rfl,rfl,hl5,lzl (by omega),?_⟩
  have gg:=qgF hlH hp ((x.trans yA).trans (Same.x tt)) (g4.same tt) (.lst (ys ++ [.ref c]))
  refine ⟨ys ++ [.ref c],ps ++ [(a,y)],_,_,rfl,gg.1.mono (by omega),gg.2,uS,?_,by simp [hlen],fun q hq=>?_⟩
  ·exact Prs.updL hl5 (Prs.snoc (p:=(a,y)) ⟨c,rfl,uS⟩ (Prs.same tt (Prs.sameX pn yA pr)))
  ·rcases List.mem_append.mp hq with z | z
   ·exact few q z
   ·rw [List.mem_singleton.mp z]
    exact ⟨a0,by omega,hy1.1,by omega⟩
 ·rintro σ' H' ⟨ys,ps,ok,oa,rfl,pn,x,hl',pr,hlen,few⟩
  refine ⟨_,rfl,_,rfl,l,ys,rfl,.inl ⟨SqL.of hl',fun b hb=>⟨_,rfl,lz 3 rfl,fun c hc=>?_⟩⟩⟩
  have s1:=sN hb (.tup ys)
  have s2:=sN hc (.tup [.int n,.ref b,.str t])
  have ss:=s1.trans s2
  exact k _ ps t _ ⟨c,b,ys,rfl,uS,s2 _ _ uS,Prs.same ss pr⟩ (by omega) (by omega) few ht ((pn.same ss).mono (by omega)) (x.trans (Same.x ss))
end
def netD (n:Nat)(ps:List (Int × Int))(t:Str):PyData := .tuple [.int n,.tuple (ps.map dp),.str t]
theorem qbc.data {H:Hp}{v:V}{n:Nat}{ps:List (Int × Int)}{t:Str}(h:qbc H v n ps t):qcQ H v (netD n ps t):=by
 obtain ⟨a,b,xs,rfl,h1,h2,h3⟩:=h
 exact .tup h1 (.cons (.int _) (.cons (.tup h2 (Prs.data h3)) (.cons (.str _) .nil)))
theorem qgM:∀ ps:List (Int × Int),qa0 (ps.map dp)=false
 | []=>rfl
 | q :: qs=>by simp [qa0,dp,lists,qgM qs]
end My
namespace My
open PySem L2 MA Srt
def pw1 (t:Str)(st:List Int)(q:Int × Int)(i:Nat):Int :=
 if t = "dice" /\ st.getD q.1.toNat 0=st.getD q.2.toNat 0 then (if q.1.toNat=i then 1 else 0) + (if q.2.toNat=i then 1 else 0)
 else if (if st.getD q.2.toNat 0 < st.getD q.1.toNat 0 then q.2.toNat else q.1.toNat)=i then 2 else 0
def bwF (ps:List (Int × Int))(t:Str)(st:List Int)(i:Nat):Int:=(ps.map fun q=>pw1 t st q i).sum
def bwL (n:Nat)(ps:List (Int × Int))(t:Str)(st:List Int):List Int:=(List.range n).map fun i=>bwF ps t st i
theorem qjy (ps:List (Int × Int))(q:Int × Int)(t:Str)(st:List Int)(i:Nat):bwF (ps ++ [q]) t st i=bwF ps t st i + pw1 t st q i:=by unfold bwF; simp
theorem qfF (n:Nat)(f:Nat->Int)(a:Nat)(c:Int)(h:a < n):((List.range n).map f).set a (((List.range n).map f).getD a 0 + c)=(List.range n).map fun i=>f i + if a=i then c else 0:=by
 refine List.ext_getElem (by simp) fun i h1 h2=>?_
 have hi:i < n:=by simpa using h2
 rw [List.getElem_set]
 by_cases e:a=i
 ·subst e
  simp [h]
 ·simp [e]
theorem qm3 (t:Str)(st:List Int)(q:Int × Int)(i:Nat):0≤pw1 t st q i/\pw1 t st q i≤2:=by
 unfold pw1; split <;> split <;> (try split) <;> omega
theorem qjz:∀ (ps:List (Int × Int)) (t:Str) (st:List Int) (i:Nat),0≤bwF ps t st i/\bwF ps t st i≤2 * ps.length
 | [],t,st,i=>by simp [bwF]
 | q :: ps,t,st,i=>by
  have h1:=qjz ps t st i
  have h2:=qm3 t st q i
  unfold bwF at h1 ⊢
  simp only [List.map_cons,List.sum_cons,List.length_cons]
  omega
theorem qjA (n:Nat)(ps:List (Int × Int))(t:Str)(st:List Int):(bwL n ps t st).length=n:=by simp [bwL]
theorem joinP {R G:Prop}(C:Prop)(main:(C->R)->G)(key:C->R):G:=main key
theorem tst {a b:Int}(c:decide (V.int a=V.int b)=true):a=b:=V.int.inj (of_decide_eq_true c)
theorem tstN {a b:Int}(c:¬ decide (V.int a=V.int b)=true):a≠b:=fun e=>c (by rw [e]; simp)
theorem gN_ {i:Nat}{v:V}{σ:St}{H:Hp}{Q:St->Hp->Prop}(h:Q (σ.set i (some v)) H):qky i v σ H Q:=h
theorem qgW {n j:Nat}(h:j < n):ixN n (j:Int)=some j:=qmd h
theorem qlh {ns:List Int}{k:Nat}(h:k≤ns.length):cutV (iv ns) none (some (k:Int))=iv (ns.take k):=by rw [L2.cut_take (by simpa using h),qme]
theorem qli {ns:List Int}{k:Nat}(h:k≤ns.length):cutV (iv ns) (some (k:Int)) none=iv (ns.drop k):=by rw [L2.cut_drop (by simpa using h),qmf]
section
variable {P:Program}{w:World}{K:PySem.W.Frag}{mg:Str->Option Value}{base:Heap}
def qkU:Sp:=fun vs H Q _=>∃ (v:V) (a:Addr) (n:Nat) (ps:List (Int × Int)) (t:Str) (st:List Int),vs=[v,.ref a]/\qbc H v n ps t/\H a=some (.tup (iv st))/\st.length=n/\n≤6/\1≤n/\Few n ps/\ps.length≤40/\∀ (l:Addr) (H':Hp),Same H H'->H' l=some (.lst (iv (bwL n ps t st)))->Q (.ref l) H'
theorem ql1 (T:Txt2 mg)(F:FunAt K mg "box_weights" ["net", "stand"] s_box_weights):Cal P w K mg base "box_weights" ["net", "stand"] 1 qkU:=by
 have S:=qbV
 refine F.cal qbV (fun vs H Q E h=>?_) (fun f cdv A outer s H vs Q E hr h=>?_)
 ·obtain ⟨v,a,n,ps,t,st,rfl,_⟩:=h; rfl
 obtain ⟨v,a,n,ps,t,st,rfl,⟨na,nb,xs,rfl,hna,hnb,prs⟩,ha,sl,n6,n1,few,p40,k⟩:=h
 refine ⟨_,(@pK _ _ _ _ _ (@qgD _ _ _ _ _ _ (pv 0) (@qcT _ _ _ _ _ _ ⋯ (@qaf _ _ _ _ _ (@pG _ _ (3) _ (by exact S.nd) ⋯ ⋯ ⋯) (@qaf _ _ _ _ _ (@pG _ _ (4) _ (by exact S.nd) ⋯ ⋯ ⋯) (@qaf _ _ _ _ _ (@pG _ _ (5) _ (by exact S.nd) ⋯ ⋯ ⋯) qaX ⋯) ⋯) ⋯) ⋯ ⋯) ⋯ ⋯ ⋯) (@pK _ _ _ _ _ (@pZ _ _ (2) _ _ _ _ (by exact S.nd) ⋯ ⋯ (@pP _ _ _ _ _ _ _ _ qix (@qaG _ _ _ _ (@pC _ _ _ _ _ pI pN ⋯)) (pv 3)) ⋯ ⋯) (@pK _ _ _ _ _ (@qbd _ _ _ _ _ _ _ _ (by exact PassesOwn.never) ⋯ (@qgE _ _ _ _ (pv 4)) (@qcT _ _ _ _ _ _ ⋯ (@qaf _ _ _ _ _ (@pG _ _ (6) _ (by exact S.nd) ⋯ ⋯ ⋯) (@qaf _ _ _ _ _ (@pG _ _ (7) _ (by exact S.nd) ⋯ ⋯ ⋯) qaX ⋯) ⋯) ⋯ ⋯) (@pO _ _ _ (@qbj _ _ _ _ _ _ _ _ (@PW.pt _ _ _ (@qim _ _ _ _ _ _ _ (@qal _ _ _ _ _ _ _ _ qfS (pv 5) qav (by exact (qax _))) (@qfK _ _ _ _ (@qal _ _ _ _ _ _ _ _ qfS (@qaw _ _ _ _ _ _ _ qas (pv 1) (pv 6) (by exact (fun _ _=>rfl))) (@qaw _ _ _ _ _ _ _ qas (pv 1) (pv 7) (by exact (fun _ _=>rfl))) (by exact (qax _)))))) (@pK _ _ _ _ _ (@qfM _ _ _ _ _ _ _ _ _ _ _ _ _ (pv 2) (pv 6) qev pI qiZ set_list ⋯) (@pO _ _ _ (@qfM _ _ _ _ _ _ _ _ _ _ _ _ _ (pv 2) (pv 7) qev pI qiZ set_list ⋯))) (@pO _ _ _ (@qfM _ _ _ _ _ _ _ _ _ _ _ _ _ (pv 2) (@qj9 _ _ _ _ _ _ _ _ (@qal _ _ _ _ _ _ _ _ qho (@qaw _ _ _ _ _ _ _ qas (pv 1) (pv 7) (by exact (fun _ _=>rfl))) (@qaw _ _ _ _ _ _ _ qas (pv 1) (pv 6) (by exact (fun _ _=>rfl))) (by exact (qax _))) (pv 7) (pv 6)) qev pI qiZ set_list ⋯)))) ⋯) (@pO _ _ _ (@qan _ _ _ _ (pv 2)))))),?_⟩
 have xl:=prs.length
 refine ⟨_,rfl,na,_,rfl,SqT.of hna,rfl,_,_,rfl,_,_,rfl,_,_,rfl,rfl,?_⟩
 refine ⟨lz 1 rfl,fun l0 hl0=>?_⟩
 have s_A0:=sN hl0 (.lst [.int 0])
 have g_l0:upd H l0 (.lst [.int 0]) l0=some (.lst [.int 0]):=uS
 generalize upd H l0 (.lst [.int 0])=A0 at s_A0 g_l0 ⊢
 refine ⟨_,rfl,l0,(n:Int),_,rfl,rfl,g_l0,by omega,by omega,?_,fun l hl=>?_⟩
 ·show 1 * (n:Int).toNat≤sizeLine
  rw [sizeLine_eq]; omega
 have hw:upd A0 l (.lst (List.replicate (n:Int).toNat [V.int 0]).flatten) l=some (.lst (iv (bwL n [] t st))):=by
  rw [uS,rep1,show (n:Int).toNat=n by omega]
  have:List.replicate n (0:Int)=bwL n [] t st:=by unfold bwL bwF; simp [List.map_const']
  rw [this]
 have sl0:=sN hl (.lst (List.replicate (n:Int).toNat [V.int 0]).flatten)
 have lnH:H l=none:=none_of s_A0 hl
 generalize upd A0 l (.lst (List.replicate (n:Int).toNat [V.int 0]).flatten)=H1 at hw sl0 ⊢
 have s01:=s_A0.trans sl0
 refine gN_ ⟨_,rfl,nb,rfl,⟨_,SqT.of (s01 _ _ hnb)⟩,qhC (qdG (xs:=xs)) (fun i σ H'=>Same H H'/\H' l=some (.lst (iv (bwL n (ps.take i) t st)))/\∃ o6 o7,σ=[some (.ref na),some (.ref a),some (.ref l),some (.int n),some (.ref nb),some (.str t),o6,o7]) ?_ ?_ ?_ ?_⟩
 ·exact ⟨s01,hw,_,_,rfl⟩
 ·rintro i σ H' ⟨s',_⟩
  exact s' _ _ hnb
 ·rintro i x σ X2 H2 hi ⟨s2,hl2,o6,o7,rfl⟩ ⟨rfl,hx⟩
  obtain ⟨q,hq,c,rfl,hc⟩:=qah prs hx
  obtain ⟨q10,q11,q20,q21⟩:=few q (List.mem_of_getElem? hq)
  obtain ⟨qa,qb⟩:=q
  dsimp only at q10 q11 q20 q21 hc
  obtain ⟨aa,rfl⟩:∃ aa:Nat,qa=aa:=⟨qa.toNat,by omega⟩
  obtain ⟨bb,rfl⟩:∃ bb:Nat,qb=bb:=⟨qb.toNat,by omega⟩
  have ha2:=s2 _ _ ha
  have la:aa < st.length:=by omega
  have lb:bb < st.length:=by omega
  have tk:=take_snoc hq
  have bl1:(bwL n (ps.take i) t st).length=n:=qjA _ _ _ _
  have lH:∀ o,Same H (upd H2 l o):=fun o b u e=>by rw [uE (qab e lnH)]; exact s2 _ _ e
  refine ⟨c,_,rfl,SqT.of (s2 _ _ hc),rfl,_,_,rfl,_,_,rfl,rfl,?_⟩
  apply joinP (¬ (t = "dice" /\ st.getD aa 0=st.getD bb 0))
  case main =>
   intro key
   refine ⟨_,rfl,rfl,_,rfl,?_⟩
   refine ite2 (fun ct=>?_) (fun ct=>iteF (key fun z=>ct (by rw [z.1]; simp)))
   have ct':t = "dice" := by have:=of_decide_eq_true ct; exact V.str.inj this
   refine ⟨_,rfl,_,rfl,a,_,_,_,rfl,rfl,SqT.of ha2,qaW la,_,rfl,_,rfl,a,_,_,_,rfl,rfl,SqT.of ha2,qaW lb,rfl,_,rfl,?_⟩
   refine ite2 (fun ce=>?_) (fun ce=>key fun z=>tstN ce z.2)
   have ce':st.getD aa 0=st.getD bb 0:=tst ce
   refine ⟨_,rfl,_,rfl,l,_,(aa:Int),_,rfl,rfl,by omega,hl2,qaW (by omega),_,1,rfl,rfl,l,_,(aa:Int),aa,rfl,rfl,hl2,qgW (by simp [bl1]; omega),?_⟩
   rw [qfc]
   have hl3:upd H2 l (.lst (iv ((bwL n (ps.take i) t st).set aa ((bwL n (ps.take i) t st).getD aa 0 + 1)))) l=some (.lst (iv ((bwL n (ps.take i) t st).set aa ((bwL n (ps.take i) t st).getD aa 0 + 1)))):=uS
   have e1:(bwL n (ps.take i) t st).set aa ((bwL n (ps.take i) t st).getD aa 0 + 1)=(List.range n).map fun j=>bwF (ps.take i) t st j + if aa=j then 1 else 0:=qfF n _ aa 1 (by omega)
   refine ⟨_,rfl,_,rfl,l,_,(bb:Int),_,rfl,rfl,by omega,hl3,qaW (by simp [bl1]; omega),_,1,rfl,rfl,l,_,(bb:Int),bb,rfl,rfl,hl3,qgW (by simp [bl1]; omega),?_⟩
   rw [qfc,qd5,e1,qfF n _ bb 1 (by omega)]
   refine ⟨lH _,?_,_,_,rfl⟩
   rw [uS,tk]
   congr 3
   unfold bwL
   refine List.map_congr_left fun j _=>?_
   have pd:pw1 t st ((aa:Int),(bb:Int)) j=(if aa=j then 1 else 0) + (if bb=j then 1 else 0):=by
    unfold pw1; simp only [Int.toNat_natCast]; exact if_pos ⟨ct',ce'⟩
   rw [qjy,pd]
   omega
  intro nc
  have pq:∀ j,pw1 t st ((aa:Int),(bb:Int)) j=if (if st.getD bb 0 < st.getD aa 0 then bb else aa)=j then 2 else 0:=fun j=>by
   unfold pw1
   simp only [Int.toNat_natCast]
   rw [if_neg nc]
  have fin:∀ (g:Nat),g < n->(g=if st.getD bb 0 < st.getD aa 0 then bb else aa)->Same H (upd H2 l (.lst (iv ((bwL n (ps.take i) t st).set g ((bwL n (ps.take i) t st).getD g 0 + 2)))))/\upd H2 l (.lst (iv ((bwL n (ps.take i) t st).set g ((bwL n (ps.take i) t st).getD g 0 + 2)))) l=some (.lst (iv (bwL n (ps.take (i + 1)) t st))):=fun g hg eg=>by
   refine ⟨lH _,?_⟩
   rw [uS,tk]
   have e2:(bwL n (ps.take i) t st).set g ((bwL n (ps.take i) t st).getD g 0 + 2)=(List.range n).map fun j=>bwF (ps.take i) t st j + if g=j then 2 else 0:=qfF n _ g 2 hg
   rw [e2]
   congr 3
   unfold bwL
   refine List.map_congr_left fun j _=>?_
   rw [qjy,pq,<- eg]
  refine ⟨_,rfl,_,rfl,_,rfl,a,_,_,_,rfl,rfl,SqT.of ha2,qaW lb,_,rfl,_,rfl,a,_,_,_,rfl,rfl,SqT.of ha2,qaW la,_,_,rfl,rfl,_,rfl,?_⟩
  refine ite2 (fun cl=>?_) (fun cl=>?_)
  ·have cl':st.getD bb 0 < st.getD aa 0:=of_decide_eq_true cl
   obtain ⟨f1,f2⟩:=fin bb (by omega) (by rw [if_pos cl'])
   refine ⟨_,rfl,l,_,(bb:Int),_,rfl,rfl,by omega,hl2,qaW (by omega),_,2,rfl,rfl,l,_,(bb:Int),bb,rfl,rfl,hl2,qgW (by simp [bl1]; omega),?_⟩
   rw [qfc]
   exact ⟨f1,f2,_,_,rfl⟩
  ·have cl':¬ st.getD bb 0 < st.getD aa 0:=fun z=>cl (decide_eq_true z)
   obtain ⟨f1,f2⟩:=fin aa (by omega) (by rw [if_neg cl'])
   refine ⟨_,rfl,l,_,(aa:Int),_,rfl,rfl,by omega,hl2,qaW (by omega),_,2,rfl,rfl,l,_,(aa:Int),aa,rfl,rfl,hl2,qgW (by simp [bl1]; omega),?_⟩
   rw [qfc]
   exact ⟨f1,f2,_,_,rfl⟩
 ·rintro σ H2 ⟨s2,hl2,o6,o7,rfl⟩
  rw [xl,List.take_length] at hl2
  exact ⟨_,rfl,k l H2 s2 hl2⟩
def putS (st:List Int)(i:Nat):List Int:=st.set i (st.getD i 0 + 1)
def nxF (n:Nat)(ps:List (Int × Int))(t:Str)(st:List Int):Mp:=(List.range n).flatMap fun i=>if 0 < bwF ps t st i then [(putS st i,bwF ps t st i)] else []
theorem qeq (n:Nat)(ps:List (Int × Int))(t:Str)(st:List Int):nxF (n + 1) ps t st=nxF n ps t st ++ if 0 < bwF ps t st n then [(putS st n,bwF ps t st n)] else []:=by
 unfold nxF; rw [List.range_succ,List.flatMap_append]; simp
theorem qin {st:List Int}{i:Nat}(h:i < st.length):st.take i ++ [st.getD i 0 + 1] ++ st.drop (i + 1)=putS st i:=by
 unfold putS
 rw [List.set_eq_take_append_cons_drop,if_pos h]; simp
def qia:Sp:=fun vs H Q _=>∃ (v:V) (a:Addr) (n:Nat) (ps:List (Int × Int)) (t:Str) (st:List Int),vs=[v,.ref a]/\qbc H v n ps t/\H a=some (.tup (iv st))/\st.length=n/\n≤6/\1≤n/\Few n ps/\ps.length≤40/\∀ (l:Addr) (ys:List V) (H':Hp),Same H H'->H l=none->H' l=some (.lst ys)->qjI H' ys (nxF n ps t st)->Q (.ref l) H'
theorem qlZ (T:Txt2 mg)(C_box_weights:Cal P w K mg base "box_weights" ["net", "stand"] 1 qkU)(F:FunAt K mg "next_stands" ["net", "stand"] s_next_stands):Cal P w K mg base "next_stands" ["net", "stand"] 2 qia:=by
 have S:=qbU
 refine F.cal qbU (fun vs H Q E h=>?_) (fun f cdv A outer s H vs Q E hr h=>?_)
 ·obtain ⟨v,a,n,ps,t,st,rfl,_⟩:=h; rfl
 obtain ⟨v,a,n,ps,t,st,rfl,net,ha,sl,n6,n1,few,p40,k⟩:=h
 refine ⟨_,(@pO _ _ _ (@qan _ _ _ _ (@qcF _ _ _ _ _ _ _ _ _ _ _ _ _ ⋯ (by exact (fun _ _ h=>h)) (by decide +kernel) ⋯ (by decide +kernel) (by exact qbH rfl) (by exact Sees.frees ["box", "weight"] [("stand",1)] (qaI ⟨rfl,rfl⟩ qbJ)) (@qj6 true _ _ _ _ _ _ _ _ ⋯ (by exact T.z_enumerate) (@pC _ _ _ _ _ (@cc _ _ _ _ _ _ _ _ _ _ (by exact C_box_weights) (by exact (hr.mono (by decide))) (@pC _ _ _ _ _ (pv 0) (@pC _ _ _ _ _ (pv 1) pN ⋯) ⋯) ⋯ ⋯ ⋯ ⋯) pN ⋯) ⋯) (fun _ _ _ _ _ => @qb0 _ _ _ _ _ (2) ⋯ (@qaf _ _ _ _ _ (@pG _ _ (0) _ (by exact (show (["box", "weight", "stand"]:List Str).Nodup by decide +kernel)) ⋯ ⋯ ⋯) (@qaf _ _ _ _ _ (@pG _ _ (1) _ (by exact (show (["box", "weight", "stand"]:List Str).Nodup by decide +kernel)) ⋯ ⋯ ⋯) qaX ⋯) ⋯) ⋯ ⋯) (fun _ _ _ _ _=>(@qlJ _ _ _ (@qal _ _ _ _ _ _ _ _ qfQ (pv 1) pI (by exact (qax _))))) (fun _ _ _ _ _=>(@qag _ _ _ _ _ (@pC _ _ _ _ _ (@pP _ _ _ _ _ _ _ _ qeo (@pP _ _ _ _ _ _ _ _ qeo (@qbO _ _ _ _ _ _ _ _ _ _ qeb (pv 2) qcE (@qcD _ _ _ (pv 0))) (@qag _ _ _ _ _ (@pC _ _ _ _ _ (@pP _ _ _ _ _ _ _ _ qaP (@qaw _ _ _ _ _ _ _ qmc (pv 2) (pv 0) (by exact (fun _ _=>rfl))) pI) pN ⋯))) (@qbO _ _ _ _ _ _ _ _ _ _ qeb (pv 2) (@qcD _ _ _ (@pP _ _ _ _ _ _ _ _ qaP (pv 0) pI)) qcE)) (@pC _ _ _ _ _ (pv 1) pN ⋯) ⋯))) ⋯))),?_⟩
 refine ⟨_,rfl,_,rfl,v,a,n,ps,t,st,rfl,net,ha,sl,n6,n1,few,p40,fun l H1 s1 hl=>?_⟩
 have bl:=qjA n ps t st
 refine ⟨l,rfl,⟨_,SqL.of hl⟩,qcW (qeF (xs:=iv (bwL n ps t st))) (fun p i ys σ' H'=>Same H1 H'/\(∃ o1 o2,σ'=[o1,o2,some (.ref a)])/\qjI H' ys (nxF i ps t st)) (by simp [bl]; omega) ?_ ?_ ?_ ?_⟩
 ·exact fun p hp=>⟨sN hp _,⟨_,_,rfl⟩,.nil⟩
 ·rintro p i ys σ' H' hp ⟨s',_⟩
  exact s' _ _ hl
 ·rintro p i ys σ' H' x H'' hp hi hl' ⟨s',⟨o1,o2,rfl⟩,rows⟩ hp' ⟨tt,y,rfl,htt,rfl,hy⟩ Q1 Q2 h1 h2
  have hi':i < n:=by simpa [bl] using hi
  have ey:y = .int (bwF ps t st i):=by
   rw [List.getElem?_map,List.getElem?_eq_getElem (by omega)] at hy
   have:=(Option.some.inj hy).symm
   rw [this]
   congr 1
   unfold bwL; simp
  subst ey
  have s_C1:=sN htt (.tup [.int (i:Int),.int (bwF ps t st i)])
  have g_tt:upd H' tt (.tup [.int (i:Int),.int (bwF ps t st i)]) tt=some (.tup [.int (i:Int),.int (bwF ps t st i)]):=uS
  generalize upd H' tt (.tup [.int (i:Int),.int (bwF ps t st i)])=C1 at s_C1 g_tt ⊢
  refine ⟨tt,_,rfl,g_tt,rfl,_,_,rfl,_,_,rfl,rfl,?_⟩
  refine ⟨_,rfl,_,_,rfl,rfl,_,rfl,?_⟩
  have ha1:=s_C1 _ _ (s' _ _ (s1 _ _ ha))
  have hp1:=s_C1 _ _ hp'
  refine ite2 (fun c=>?_) (fun c=>?_)
  ·have c':0 < bwF ps t st i:=of_decide_eq_true c
   refine ⟨_,rfl,_,rfl,_,rfl,a,_,rfl,ha1,fun c3 H3 s3 hc3=>?_⟩
   rw [qlh (by omega)] at hc3
   refine ⟨_,rfl,_,rfl,a,_,_,_,rfl,rfl,s3 _ _ ha1,qaW (by omega),_,_,rfl,rfl,lz 1 rfl,fun t4 ht4=>?_⟩
   have s_H4:=sN ht4 (.tup [.int (st.getD i 0 + 1)])
   have g_t4:upd H3 t4 (.tup [.int (st.getD i 0 + 1)]) t4=some (.tup [.int (st.getD i 0 + 1)]):=uS
   generalize upd H3 t4 (.tup [.int (st.getD i 0 + 1)])=H4 at s_H4 g_t4 ⊢
   refine ⟨c3,t4,_,_,rfl,rfl,s_H4 _ _ hc3,g_t4,by simp; omega,fun c5 H5 s5 hc5=>?_⟩
   have s35:=s3.trans (s_H4.trans s5)
   refine ⟨_,rfl,_,rfl,_,_,rfl,rfl,_,rfl,a,_,rfl,s35 _ _ ha1,fun c6 H6 s6 hc6=>?_⟩
   have e6:cutV (iv st) (some ((i:Int) + 1)) none=iv (st.drop (i + 1)):=by
    have:=qli (ns:=st) (k:=i + 1) (by omega)
    rw [show (((i + 1:Nat)):Int)=(i:Int) + 1 by omega] at this
    exact this
   change H6 c6=some (.tup (cutV (iv st) (some ((i:Int) + 1)) none)) at hc6
   rw [e6] at hc6
   refine ⟨c5,c6,_,_,rfl,rfl,s6 _ _ hc5,hc6,by simp; omega,fun c7 H7 s7 hc7=>?_⟩
   have e7:iv (st.take i) ++ [V.int (st.getD i 0 + 1)] ++ iv (st.drop (i + 1))=iv (putS st i):=by
    rw [<- qin (by omega)]; simp
   rw [e7] at hc7
   refine ⟨_,rfl,lz 2 rfl,fun t8 ht8=>?_⟩
   have s_H8:=sN ht8 (.tup [.ref c7,.int (bwF ps t st i)])
   have g_t8:upd H7 t8 (.tup [.ref c7,.int (bwF ps t st i)]) t8=some (.tup [.ref c7,.int (bwF ps t st i)]):=uS
   generalize upd H7 t8 (.tup [.ref c7,.int (bwF ps t st i)])=H8 at s_H8 g_t8 ⊢
   have sAll:=s35.trans (s6.trans (s7.trans s_H8))
   have hp8:=sAll _ _ hp1
   refine h1 _ _ _ hp8 ⟨qa8 hp (s'.trans (s_C1.trans sAll)) _,⟨_,_,rfl⟩,?_⟩
   rw [qeq,if_pos c']
   exact qaC (Paired.mapP rows fun _ _ z=>z.imp fun b xs e=>tupL hp8 _ _ ((s_C1.trans sAll) _ _ e)) ⟨t8,c7,rfl,tupL hp8 _ _ g_t8,tupL hp8 _ _ (s_H8 _ _ hc7)⟩
  ·have c':¬ 0 < bwF ps t st i:=fun z=>c (decide_eq_true z)
   refine h2 _ _ hp1 ⟨s'.trans s_C1,⟨_,_,rfl⟩,?_⟩
   rw [qeq,if_neg c',List.append_nil]
   exact Paired.mapP rows fun _ _ z=>z.imp fun b xs e=>s_C1 _ _ e
 ·rintro p ys σ' H' hp ⟨s',_,rows⟩ hp' hl'
  have e:(iv (bwL n ps t st)).length=n:=by simp [bl]
  rw [e] at rows
  exact k p ys H' (s1.trans s') (none_of s1 hp) hp' rows
def qic:Sp:=fun vs H Q _=>∃ (v:V) (n:Nat) (ps:List (Int × Int)) (t:Str),vs=[v]/\qbc H v n ps t/\Q (.int (2 * (ps.length:Int))) H
theorem ql2 (T:Txt2 mg)(F:FunAt K mg "all_weights" ["net"] s_all_weights):Cal P w K mg base "all_weights" ["net"] 1 qic:=by
 have S:=qbW
 refine F.cal qbW (fun vs H Q E h=>?_) (fun f cdv A outer s H vs Q E hr h=>?_)
 ·obtain ⟨v,n,ps,t,rfl,_⟩:=h; rfl
 obtain ⟨v,n,ps,t,rfl,⟨na,nb,xs,rfl,hna,hnb,prs⟩,k⟩:=h
 refine ⟨_,(@pO _ _ _ (@qan _ _ _ _ (@pP _ _ _ _ _ _ _ _ qcj pI (@qak _ _ _ _ _ _ _ _ _ qaH ⋯ (by exact T.z_len) (by exact qcy) (@pC _ _ _ _ _ (@qaw _ _ _ _ _ _ _ qas (pv 0) pI (by exact (fun _ _=>rfl))) pN ⋯) ⋯ ⋯ ⋯ ⋯)))),?_⟩
 have xl:=prs.length
 rw [<- xl] at k
 exact ⟨_,rfl,na,_,_,_,rfl,rfl,SqT.of hna,rfl,nb,_,rfl,.inr (SqT.of hnb),_,_,rfl,rfl,.inl ⟨by decide,by decide⟩,k⟩
end
def itS (n:Nat)(ps:List (Int × Int))(t:Str)(st:List Int):Nat->Mp
 | 0=>[(st,1)]
 | j + 1=>gath (qaz (itS n ps t st j) (nxF n ps t))
theorem qdl (ps:List (Int × Int))(t:Str)(l:List Int):∀ n,(nxF n ps t l).length≤n
 | 0=>by simp [nxF]
 | n + 1=>by
  have:=qdl ps t l n
  rw [qeq,List.length_append]
  split <;> simp <;> omega
theorem qdk {n:Nat}{ps:List (Int × Int)}{t:Str}{l:List Int}{q:List Int × Int}(h:q∈nxF n ps t l):∃ i,i < n/\q=(putS l i,bwF ps t l i)/\0 < bwF ps t l i:=by
 unfold nxF at h
 obtain ⟨r,hr,hq⟩:=List.mem_flatMap.mp h
 split at hq
 ·rename_i z
  exact ⟨r,List.mem_range.mp hr,List.mem_singleton.mp hq,z⟩
 ·simp at hq
theorem qbe (l:List Int)(i:Nat):(putS l i).length=l.length:=by unfold putS; simp
theorem qgZ {n:Nat}{ps:List (Int × Int)}{t:Str}{st:List Int}(h:st.length=n):∀ j,∀ k∈qac (itS n ps t st j),k.length=n
 | 0,k,hk=>by have:k=st:=by simpa [itS,qac] using hk
              rw [this,h]
 | j + 1,k,hk=>by
  have hk':=(qbp _ _).mp hk
  obtain ⟨l,hl,hg⟩:=qbw.mp hk'
  obtain ⟨q,hq,rfl⟩:=List.mem_map.mp hg
  obtain ⟨i,_,rfl,_⟩:=qdk hq
  rw [qbe]; exact qgZ h j l hl
theorem qcq (n:Nat)(ps:List (Int × Int))(t:Str)(st:List Int):∀ j,(qac (itS n ps t st j)).Nodup
 | 0=>by simp [itS,qac]
 | j + 1=>qbR _
theorem qci (m:Mp)(g:List Int->Mp)(n:Nat)(h:∀ l,(g l).length≤n):(qaz m g).length≤m.length * n:=by
 unfold qaz
 induction m with
 | nil=>simp
 | cons p m ih =>
  rw [List.flatMap_cons,List.length_append,List.length_map,List.length_cons,Nat.add_mul]
  have:=h p.1
  omega
theorem qde {m:Mp}{g:List Int->Mp}{i:Nat}{p:List Int × Int}(h:m[i]?=some p):qaz (m.take (i + 1)) g=qaz (m.take i) g ++ (g p.1).map fun q=>(q.1,p.2 * q.2):=by
 unfold qaz; rw [take_snoc h,List.flatMap_append]; simp
def SmB (p:Addr)(H H':Hp):Prop:=∀ b u,b≠p->H b=some u->H' b=some u
theorem SmB.refl (p:Addr)(H:Hp):SmB p H H:=fun _ _ _ e=>e
theorem SmB.trans {p:Addr}{H H1 H2:Hp}(a:SmB p H H1)(b:SmB p H1 H2):SmB p H H2:=fun c u n e=>b c u n (a c u n e)
theorem SmB.of {p:Addr}{H H':Hp}(s:Same H H'):SmB p H H':=fun b u _ e=>s b u e
theorem SmB.upd {p:Addr}{H H':Hp}(s:SmB p H H')(o:HO):SmB p H (L2.upd H' p o):=fun b u n e=>by rw [uE n]; exact s b u n e
theorem SmB.tup {p:Addr}{H H':Hp}{ys:List V}(s:SmB p H H')(hp:H p=some (.lst ys)):∀ b xs,H b=some (.tup xs)->H' b=some (.tup xs):=fun b xs e=>s b _ (qb2 e hp (by intro z; cases z)) e
theorem qcV {H:Hp}{a:Addr}{ns:List Int}(h:H a=some (.tup (iv ns))):H a=some (.tup ((ns.map (Sum.inl:Int->Key)).map kV)):=by rw [<- qk7]; exact h
section
variable {P:Program}{w:World}{K:PySem.W.Frag}{mg:Str->Option Value}{base:Heap}
def qd9 (c2:Addr):Sp:=fun vs H Q E=>∃ (v:V) (a:Addr) (n:Nat) (ps:List (Int × Int)) (t:Str) (st:List Int),vs=[v,.ref a]/\qbc H v n ps t/\H a=some (.tup (iv st))/\(st.length≠n->E (.ref c2) none H)/\(st.length=n->Q .non H)
theorem qki {er:Errs}(T:Txt2 mg)(N:ErrN mg er)(z2:PySem.W.excIn K er.c2 bmVE "ValueError.__new__" = true)(F:FunAt K mg "ask_boxes_of" ["net", "stand"] s_ask_boxes_of):Cal1 P w K mg base "ask_boxes_of" ["net", "stand"] 1 (qd9 er.c2):=by
 have S:=qbG
 refine F.cal1 qbG (fun vs H Q E h=>?_) (fun f cdv A outer s H vs Q E hr h=>?_)
 ·obtain ⟨v,a,n,ps,t,st,rfl,_⟩:=h; rfl
 obtain ⟨v,a,n,ps,t,st,rfl,⟨na,nb,xs,rfl,hna,hnb,prs⟩,ha,hE,k⟩:=h
 refine ⟨_,(pO (qbj (qal qen (qaw qas (pv 0) pI (fun _ _=>rfl)) (qak qaH rfl T.z_len qcy (pC (pv 1) pN)) (qax _)) (pO (qeg qfI rfl z2 rfl N.m2 (pC qav pN))) qaA)),?_⟩
 refine ⟨_,rfl,na,_,_,_,rfl,rfl,SqT.of hna,rfl,_,rfl,a,_,rfl,.inr (SqT.of ha),rfl,_,rfl,?_⟩
 by_cases e:st.length=n
 ·exact ite2 (fun c=>absurd c (by simp [e])) (fun _=>k e)
 ·exact ite2 (fun _=>⟨(by show 1≤sizeLine; decide),hE e⟩) (fun c=>absurd (show (n:Int)=(st.length:Int) by simpa using c) (by omega))
def qkT (c4:Addr):Sp:=fun vs H Q E=>∃ (d:Addr) (m:Mp),vs=[.ref d]/\H d=some (dI m)/\(500 < m.length->E (.ref c4) none H)/\(m.length≤500->Q .non H)
theorem ql0 {er:Errs}(T:Txt2 mg)(N:ErrN mg er)(z4:PySem.W.excIn K er.c4 bmVE "ValueError.__new__" = true){tk:Tok}(hms:mg "MOST_STANDS" = some (.int 500 tk))(F:FunAt K mg "ask_few" ["stands"] s_ask_few):Cal1 P w K mg base "ask_few" ["stands"] 1 (qkT er.c4):=by
 have S:=qbN
 refine F.cal1 qbN (fun vs H Q E h=>?_) (fun f cdv A outer s H vs Q E hr h=>?_)
 ·obtain ⟨d,m,rfl,_⟩:=h; rfl
 obtain ⟨d,m,rfl,hd,hE,k⟩:=h
 refine ⟨_,(pO (qbj (qal qfQ (qak qjw rfl T.z_len qcy (pC (pv 0) pN)) (qbm (v := .int 500) rfl hms ⟨_,rfl⟩) (qax _)) (pO (qeg qfI rfl z4 rfl N.m4 (pC qav pN))) qaA)),?_⟩
 refine ⟨_,rfl,d,_,rfl,.inl hd,_,_,rfl,rfl,_,rfl,?_⟩
 refine ite2 (fun c=>?_) (fun c=>?_)
 ·have c':=of_decide_eq_true c
  rw [List.length_map] at c'
  exact ⟨(by show 1≤sizeLine; decide),hE (by omega)⟩
 ·have c':¬ _:=fun z=>c (decide_eq_true z)
  rw [List.length_map] at c'
  exact k (by omega)
def qib (c4:Addr):Sp:=fun vs H Q E=>∃ (d:Addr) (xs:List V),vs=[.ref d]/\H d=some (.lst xs)/\(500 < xs.length->E (.ref c4) none H)/\(xs.length≤500->Q .non H)
theorem qkg {er:Errs}(T:Txt2 mg)(N:ErrN mg er)(z4:PySem.W.excIn K er.c4 bmVE "ValueError.__new__" = true){tk:Tok}(hms:mg "MOST_STANDS" = some (.int 500 tk))(F:FunAt K mg "ask_few" ["stands"] s_ask_few):Cal1 P w K mg base "ask_few" ["stands"] 1 (qib er.c4):=by
 have S:=qbN
 refine F.cal1 qbN (fun vs H Q E h=>?_) (fun f cdv A outer s H vs Q E hr h=>?_)
 ·obtain ⟨d,m,rfl,_⟩:=h; rfl
 obtain ⟨d,m,rfl,hd,hE,k⟩:=h
 refine ⟨_,(pO (qbj (qal qfQ (qak qaH rfl T.z_len qcy (pC (pv 0) pN)) (qbm (v := .int 500) rfl hms ⟨_,rfl⟩) (qax _)) (pO (qeg qfI rfl z4 rfl N.m4 (pC qav pN))) qaA)),?_⟩
 refine ⟨_,rfl,d,_,rfl,.inl (SqL.of hd),_,_,rfl,rfl,_,rfl,?_⟩
 refine ite2 (fun c=>?_) (fun c=>?_)
 ·have c':=of_decide_eq_true c
  exact ⟨(by show 1≤sizeLine; decide),hE (by omega)⟩
 ·have c':¬ _:=fun z=>c (decide_eq_true z)
  exact k (by omega)
structure FitA (n:Nat)(ps:List (Int × Int))(t:Str)(st:List Int)(many:Nat):Prop where
 n1:1≤n
 n6:n≤6
 few:Few n ps
 p1:1≤ps.length
 p40:ps.length≤40
 k1:many≤100
 bits:∀ j≤many,∀ x∈qap (itS n ps t st j),Bt 8000 x
def qcC (er:Errs):Sp:=fun vs H Q E=>∃ (v:V) (a:Addr) (n:Nat) (ps:List (Int × Int)) (t:Str) (st:List Int) (many:Nat),vs=[v,.ref a,.int (many:Int)]/\qbc H v n ps t/\H a=some (.tup (iv st)) /\
 (st.length≠n->E (.ref er.c2) none H)/\(st.length=n->FitA n ps t st many /\
  (∀ j,j < many->(∀ i,i≤j->(itS n ps t st i).length≤500)->500 < (itS n ps t st (j + 1)).length->∀ H',Same H H'->E (.ref er.c4) none H') /\
  ((∀ i,i≤many->(itS n ps t st i).length≤500)->∀ (l':Addr) (H':Hp),Same H H'->Q (.ref l') H'))
theorem qhr {er:Errs}(T:Txt2 mg)(C_ask_boxes_of:Cal1 P w K mg base "ask_boxes_of" ["net", "stand"] 1 (qd9 er.c2))(C_ask_few:Cal1 P w K mg base "ask_few" ["stands"] 1 (qkT er.c4))(C_next_stands:Cal P w K mg base "next_stands" ["net", "stand"] 2 qia)(C_gathered:Cal P w K mg base "gathered" ["rows"] 1 qdM)(C_all_weights:Cal P w K mg base "all_weights" ["net"] 1 qic)(C_spread_of:Cal P w K mg base "spread_of" ["weights", "bottoms"] 3 qdK)
  (F:FunAt K mg "after_on" ["net", "stand", "many"] s_after_on):Cal1 P w K mg base "after_on" ["net", "stand", "many"] 4 (qcC er):=by
 have S:=qdd
 refine F.cal1 qdd (fun vs H Q E h=>?_) (fun f cdv A outer s H vs Q E hr h=>?_)
 ·obtain ⟨v,a,n,ps,t,st,many,rfl,_⟩:=h; rfl
 obtain ⟨v,a,n,ps,t,st,many,rfl,net,ha,hU,kk⟩:=h
 have hu1:=qhA hr
 refine ⟨_,(@pK _ _ _ _ _ (@qbZ _ _ _ _ (@cc1 _ _ _ _ _ _ _ _ _ _ _ (by exact qel) (by exact C_ask_boxes_of) (by exact (hr.mono (by decide))) (@pC _ _ _ _ _ (pv 0) (@pC _ _ _ _ _ (pv 1) pN ⋯) ⋯) ⋯ ⋯ ⋯ ⋯) ⋯) (@pK _ _ _ _ _ (@PS.nox _ _ _ (@pZ _ _ (3) _ _ _ _ (by exact S.nd) ⋯ ⋯ (@qit _ _ _ _ _ _ (by exact hu1) (pv 1) pI) ⋯ ⋯)) (@pK _ _ _ _ _ (@qbd _ _ _ _ _ _ _ _ (by exact PassesOwn.leaving) ⋯ (@qbl _ _ _ _ _ _ ⋯ (by exact T.z_range) (@pC _ _ _ _ _ (pv 2) pN ⋯) ⋯) (@pG _ _ (4) _ (by exact S.nd) ⋯ ⋯ ⋯) (@pK _ _ _ _ _ (@PS.nox _ _ _ (@pZ _ _ (3) _ _ _ _ (by exact S.nd) ⋯ ⋯ (@cc _ _ _ _ _ _ _ _ _ _ (by exact C_gathered) (by exact (hr.mono (by decide))) (@pC _ _ _ _ _ (@qlN _ _ _ (@qgI _ _ _ _ _ _ _ _ _ _ _ _ _ _ _ _ _ _ _ ⋯ (by exact (fun _ _ h=>h)) (by decide +kernel) ⋯ (by decide +kernel) (by exact qbH rfl) (by exact Sees.frees ["old", "weight", "later", "chance"] [("net",0)] (qaI ⟨rfl,rfl⟩ qbJ)) (@qiq _ _ _ _ _ _ _ _ (pv 3) ⋯ ⋯) (fun _ _ _ _ _=>(@qb0 _ _ _ _ _ (2) ⋯ (@qaf _ _ _ _ _ (@pG _ _ (0) _ (by exact (show (["old", "weight", "later", "chance", "net"]:List Str).Nodup by decide +kernel)) ⋯ ⋯ ⋯) (@qaf _ _ _ _ _ (@pG _ _ (1) _ (by exact (show (["old", "weight", "later", "chance", "net"]:List Str).Nodup by decide +kernel)) ⋯ ⋯ ⋯) qaX ⋯) ⋯) ⋯ ⋯)) (fun _ _ _ _ _=>qbi) (fun _ _ _ _ _=>(@qeZ _ _ _ _ K ⋯ (@cc _ _ _ _ _ _ _ _ _ _ (by exact C_next_stands) (by exact (hr.mono (by decide))) (@pC _ _ _ _ _ (pv 4) (@pC _ _ _ _ _ (pv 0) pN ⋯) ⋯) ⋯ ⋯ ⋯ ⋯))) (fun _ _ _ _ _=>(@qb0 _ _ _ _ _ (2) ⋯ (@qaf _ _ _ _ _ (@pG _ _ (2) _ (by exact (show (["old", "weight", "later", "chance", "net"]:List Str).Nodup by decide +kernel)) ⋯ ⋯ ⋯) (@qaf _ _ _ _ _ (@pG _ _ (3) _ (by exact (show (["old", "weight", "later", "chance", "net"]:List Str).Nodup by decide +kernel)) ⋯ ⋯ ⋯) qaX ⋯) ⋯) ⋯ ⋯)) (fun _ _ _ _ _=>qbi) (fun _ _ _ _ _=>(@qag _ _ _ _ _ (@pC _ _ _ _ _ (pv 2) (@pC _ _ _ _ _ (@pP _ _ _ _ _ _ _ _ qcG (pv 1) (pv 3)) pN ⋯) ⋯))) ⋯ ⋯)) pN ⋯) ⋯ ⋯ ⋯ ⋯) ⋯ ⋯)) (@pO _ _ _ (@qbZ _ _ _ _ (@cc1 _ _ _ _ _ _ _ _ _ _ _ (by exact qel) (by exact C_ask_few) (by exact (hr.mono (by decide))) (@pC _ _ _ _ _ (pv 3) pN ⋯) ⋯ ⋯ ⋯ ⋯) ⋯))) ⋯) (@pO _ _ _ (@PS.nox _ _ _ (@qan _ _ _ _ (@cc _ _ _ _ _ _ _ _ _ _ (by exact C_spread_of) (by exact (hr.mono (by decide))) (@pC _ _ _ _ _ (pv 3) (@pC _ _ _ _ _ (@pP _ _ _ _ _ _ _ _ qix (@qaG _ _ _ _ (@pC _ _ _ _ _ (@cc _ _ _ _ _ _ _ _ _ _ (by exact C_all_weights) (by exact (hr.mono (by decide))) (@pC _ _ _ _ _ (pv 0) pN ⋯) ⋯ ⋯ ⋯ ⋯) pN ⋯)) (pv 2)) pN ⋯) ⋯) ⋯ ⋯ ⋯ ⋯))))))),?_⟩
 refine ⟨_,rfl,_,rfl,v,a,n,ps,t,st,rfl,net,ha,hU,fun sl=>?_⟩
 obtain ⟨fit,hT,k⟩:=kk sl
 intro d0 hd0
 refine ⟨_,rfl,a,st.map Sum.inl,rfl,qcV (sN hd0 _ _ _ ha),uS,?_⟩
 rw [qd5]
 have sd0:=sN hd0 (.dT [(st.map Sum.inl,.int 1)])
 have hd0':upd H d0 (.dT [(st.map Sum.inl,.int 1)]) d0=some (dI (itS n ps t st 0)):=uS
 generalize upd H d0 (.dT [(st.map Sum.inl,.int 1)])=Hz at sd0 hd0' ⊢
 refine gN_ ?_
 have n6:=fit.n6
 have k1:=fit.k1
 refine ⟨_,rfl,(many:Int),rfl,by omega,by omega,qhC (qdH (lo:=0)) (fun j σ H'=>Same H H'/\(∀ i,i≤j->(itS n ps t st i).length≤500)/\∃ d o4,H' d=some (dI (itS n ps t st j))/\σ=[some v,some (.ref a),some (.int (many:Int)),some (.ref d),o4]) ?_ (fun _ _ _ _=>trivial) ?_ ?_⟩
 ·exact ⟨sd0,fun i hi=>by rw [show i=0 by omega]; show 1≤500; decide,d0,_,hd0',rfl⟩
 ·rintro j0 x0 σ0 X0 G hj0 ⟨sG,cap,d,o4,hd,rfl⟩ ⟨rfl,rfl⟩
  have hj0':j0 < many:=by omega
  refine gN_ ?_
  have capj:=cap j0 (Nat.le_refl _)
  have bitj:=fit.bits j0 (by omega)
  have keyj:=qgZ (ps:=ps) (t:=t) sl j0
  generalize hm:itS n ps t st j0=m at hd capj bitj keyj
  have hnx:itS n ps t st (j0 + 1)=gath (qaz m (nxF n ps t)):=by show gath (qaz (itS n ps t st j0) (nxF n ps t))=_; rw [hm]
  have netG:=net.same sG
  refine ⟨d,_,hd,?_⟩
  refine ⟨_,rfl,d,_,rfl,.inl ⟨hd,fun o=>?_⟩⟩
  intro p hp
  have zz:∀ {b:Addr} {u:HO},G b=some u->b≠d->upd G d (.frz o (dI m)) b=some u:=fun e nn=>by rw [uE nn]; exact e
  have hpd:p≠d:=fun z=>by rw [z,uS] at hp; cases hp
  have hpn:G p=none:=by rw [uE hpd] at hp; exact hp
  have dk:dI m = .dT ((m.map fI).map kI):=(qmw m).symm
  have tz:∀ b xs,G b=some (.tup xs)->upd G d (.frz o (dI m)) b=some (.tup xs):=fun b xs e=>zz e (qb2 e hd (by intro z; cases z))
  have netZ:qbc (upd G d (.frz o (dI m))) v n ps t:=by
   obtain ⟨na,nb,xs,e,h1,h2,h3⟩:=netG
   exact ⟨na,nb,xs,e,tz _ _ h1,tz _ _ h2,Paired.mapP h3 fun _ _ ⟨c,e,h⟩=>⟨c,e,tz _ _ h⟩⟩
  refine qes (qd3 (kws:=m.map fI)) (fun i σ' H'=>Same (upd G d (.frz o (dI m))) H'/\(∃ o1 o2 o3 o4,σ'=[o1,o2,o3,o4,some v])/\∃ ys,H' p=some (.lst ys)/\qjI H' ys (qaz (m.take i) (nxF n ps t))) ?_ ?_ ?_ ?_
  ·exact ⟨sN hp _,⟨_,_,_,_,rfl⟩,[],uS,.nil⟩
  ·rintro i σ' H' ⟨s',_⟩
   rw [<- dk]
   exact s' _ _ uS
  ·rintro i x σ' H1 H2 hi ⟨s1,⟨o1,o2,o3,o4,rfl⟩,ys,hy,ry⟩ ⟨q,b,kw,rfl,hq,hb,rfl,hkw⟩ R hR
   rw [List.getElem?_map,Option.map_eq_some_iff] at hkw
   obtain ⟨e,he,rfl⟩:=hkw
   have em:e∈m:=List.mem_of_getElem? he
   have s2:=sN hq (.tup [.ref b,(fI e).2])
   refine ⟨q,_,rfl,uS,rfl,_,_,rfl,_,_,rfl,rfl,?_⟩
   refine tT_ (iteT ?_)
   have hyq:=s2 _ _ hy
   have hbq:=s2 _ _ hb
   have el:e.1.length=n:=keyj _ (List.mem_map_of_mem em)
   refine ⟨_,rfl,_,rfl,v,b,n,ps,t,e.1,rfl,netZ.same (s1.trans s2),hbq,el,n6,fit.n1,fit.few,fit.p40,fun l3 zs3 H3 s3 hn3 hl3 rz3=>?_⟩
   have hy3:=s3 _ _ hyq
   have l3p:l3≠p:=by
    intro z
    rw [z,hyq] at hn3; cases hn3
   refine ⟨l3,rfl,⟨_,SqL.of hl3⟩,qes (qaF (xs:=zs3)) (fun j σ' H'=>SmB p H3 H'/\(∃ o3 o4,σ'=[some (.ref b),some (.int e.2),o3,o4,some v])/\∃ zs,H' p=some (.lst zs)/\qjI H' zs (qaz (m.take i) (nxF n ps t) ++ ((nxF n ps t e.1).take j).map fun q=>(q.1,e.2 * q.2))) ?_ ?_ ?_ ?_⟩
   ·refine ⟨.refl _ _,⟨_,_,rfl⟩,ys,hy3,?_⟩
    rw [List.take_zero,List.map_nil,List.append_nil]
    exact Paired.mapP ry fun _ _ z=>z.imp fun b xs e=>(s2.trans s3) _ _ e
   ·rintro j σ' H' ⟨s4,_⟩
    exact s4 _ _ l3p hl3
   ·rintro j x σ' X4 H4 hj ⟨s4,⟨o3,o4,rfl⟩,zs,hzs,rz⟩ ⟨rfl,hx⟩ R2 hR2
    obtain ⟨g,hg,a5,b5,rfl,ha5,hb5⟩:=qah rz3 hx
    have ha6:=s4.tup hy3 _ _ ha5
    have hb6:=s4.tup hy3 _ _ hb5
    refine ⟨a5,_,rfl,ha6,rfl,_,_,rfl,_,_,rfl,rfl,?_⟩
    refine tT_ (iteT ?_)
    obtain ⟨ii,hii,eg,gp⟩:=qdk (List.mem_of_getElem? hg)
    have gb:Bt 8000 g.2:=by
     have:=qjz ps t e.1 ii
     have:=fit.p40
     rw [eg]
     exact (Bt.of_lt (n:=10) (show (bwF ps t e.1 ii).natAbs < 2 ^ 10 by have:(2:Nat) ^ 10=1024:=rfl; omega)).mono (by decide)
    refine ⟨_,rfl,_,rfl,_,rfl,_,_,rfl,rfl,⟨(bitj e.2 (List.mem_map_of_mem em)).mono (by decide),gb.mono (by decide)⟩,lz 2 rfl,fun t' ht'=>?_⟩
    have s6:=sN ht' (.tup [.ref b5,.int (e.2 * g.2)])
    have hp6:=s6 _ _ hzs
    refine ⟨zs,?_,hp6,hR2 _ _ ⟨(s4.trans (.of s6)).upd _,⟨_,_,rfl⟩,_,uS,?_⟩⟩
    ·have h1:=Paired.length rz
     have h2:=qci (m.take i) (nxF n ps t) n fun l=>qdl ps t l n
     have h3:=qdl ps t e.1 n
     rw [List.length_append,List.length_map,List.length_take] at h1
     rw [List.length_take] at h2
     have h4:min i m.length * n≤500 * 6:=Nat.mul_le_mul (by omega) n6
     rw [h1,sizeLine_eq]; omega
    ·rw [take_snoc hg,List.map_append,<- List.append_assoc]
     exact qaC (Paired.mapP rz fun _ _ z=>z.imp fun b xs e=>tupL hp6 _ _ (s6 _ _ e)) ⟨t',b5,rfl,tupL hp6 _ _ uS,tupL hp6 _ _ (s6 _ _ hb6)⟩
   ·rintro σ' H4 ⟨s4,⟨o3,o4,rfl⟩,zs,hzs,rz⟩
    refine hR _ _ ⟨fun b u e=>s4 b u (fun z=>by rw [z] at e; rw [show upd G d (.frz o (dI m)) p=none from hp] at e; cases e) (s3 _ _ ((s1.trans s2) _ _ e)),⟨_,_,_,_,rfl⟩,zs,hzs,?_⟩
    rw [qde he]
    have:=Paired.length rz3
    rw [this,List.take_length] at rz
    exact rz
  ·rintro σ' H1 ⟨s1,⟨o1,o2,o3,o4,rfl⟩,ys,hy,ry⟩
   have hml:(m.map fI).length=m.length:=by simp
   rw [hml,List.take_length] at ry
   refine ⟨o,_,s1 _ _ uS,?_⟩
   have hpd1:upd H1 d (dI m) p=some (.lst ys):=by rw [uE hpd]; exact hy
   have sH:Same G (upd H1 d (dI m)):=fun b u e=>by
    by_cases z:b=d
    ·rw [z,uS]; rw [z,hd] at e; exact e
    ·rw [uE z]; exact s1 _ _ (zz e z)
   refine ⟨p,ys,qaz m (nxF n ps t),rfl,hpd1,Paired.mapP ry fun _ _ z=>z.imp fun b xs e=>?_,?_,fun e H' s' he hH'=>?_⟩
   ·rw [uE (fun z=>by rw [z,s1 _ _ uS] at e; cases e)]; exact e
   ·have h2:=qci m (nxF n ps t) n fun l=>qdl ps t l n
    have h4:m.length * n≤500 * 6:=Nat.mul_le_mul capj n6
    omega
   ·rw [<- hnx] at hH'
    refine gN_ ⟨_,rfl,e,_,rfl,hH',fun gt=>hT j0 hj0' cap gt _ (sG.trans (sH.trans s')),fun le=>?_⟩
    exact ⟨sG.trans (sH.trans s'),fun i hi=>by rcases (show i≤j0\/i=j0 + 1 by omega) with z | z; exact cap i z; rw [z]; exact le,e,_,hH',rfl⟩
 ·rintro σ G ⟨sG,cap,d,o4,hd,rfl⟩
  rw [show (many:Int).toNat=many by omega] at hd cap
  have B1:0 < 2 * (ps.length:Int):=by have:=fit.p1; omega
  have B2:2 * (ps.length:Int)≤80:=by have:=fit.p40; omega
  refine ⟨_,rfl,_,rfl,v,n,ps,t,rfl,net.same sG,lz 1 rfl,fun l2 hl2=>?_⟩
  have s5:=sN hl2 (.lst [.int (2 * (ps.length:Int))])
  refine ⟨_,rfl,l2,(many:Int),_,rfl,rfl,uS,by omega,by omega,?_,fun l4 hl4=>?_⟩
  ·show 1 * (many:Int).toNat≤sizeLine
   rw [sizeLine_eq]; omega
  have s7:=sN hl4 (.lst (List.replicate (many:Int).toNat [V.int (2 * (ps.length:Int))]).flatten)
  have s57:=s5.trans s7
  refine ⟨d,l4,_,List.replicate many (2 * (ps.length:Int)),rfl,s57 _ _ hd,?_,qcq n ps t st many,by have:=cap many (Nat.le_refl _); omega,fun b hb'=>?_,fun l' H9 s9 hn sp=>?_⟩
  ·rw [uS,rep1,show (many:Int).toNat=many by omega]
  ·rw [(List.mem_replicate.mp hb').2]; omega
  ·have sZ:=sG.trans s57
   exact k cap l' H9 (sZ.trans s9)
end
abbrev Gs:=List (List Int × List Int)
def addG (gs:Gs)(r:List Int × Int):Gs:=if gs.any (fun g=>decide (g.1=r.1))=true then gs.map (fun g=>if g.1=r.1 then (g.1,g.2 ++ [r.2]) else g) else gs ++ [(r.1,[r.2])]
def grpF (m:Mp):Gs:=m.foldl addG []
def sG (g:List Int × List Int):List Int × Int:=(g.1,g.2.sum)
theorem qcs (m:Mp)(r:List Int × Int):grpF (m ++ [r])=addG (grpF m) r:=by unfold grpF; rw [List.foldl_append]; rfl
theorem qf1 (gs:Gs):qac (gs.map sG)=gs.map (·.1):=by unfold qac; rw [List.map_map]; rfl
theorem qnN {gs:Gs}(nd:(gs.map (·.1)).Nodup)(r:List Int × Int):(addG gs r).map sG=addM (gs.map sG) r:=by
 unfold addG addM putM
 have hh:hasM (gs.map sG) r.1=gs.any (fun g=>decide (g.1=r.1)):=by unfold hasM; rw [List.any_map]; rfl
 rw [hh]
 by_cases c:gs.any (fun g=>decide (g.1=r.1))=true
 ·rw [if_pos c,if_pos c,List.map_map,List.map_map]
  refine List.map_congr_left fun g hg=>?_
  show sG (if g.1=r.1 then (g.1,g.2 ++ [r.2]) else g)=if (sG g).1=r.1 then ((sG g).1,getM (gs.map sG) r.1 + r.2) else sG g
  by_cases e:g.1=r.1
  ·rw [if_pos e,if_pos (show (sG g).1=r.1 from e)]
   have:=qbf (m:=gs.map sG) (by rw [qf1]; exact nd) (List.mem_map_of_mem (f:=sG) hg)
   rw [show (sG g).1=r.1 from e] at this
   rw [this]
   unfold sG
   simp
  ·rw [if_neg e,if_neg (show ¬ (sG g).1=r.1 from e)]
 ·rw [if_neg c,if_neg c,List.map_append]
  have g0:getM (gs.map sG) r.1=0:=qdu fun z=>c (by rw [qf1] at z; obtain ⟨g,hg,e⟩:=List.mem_map.mp z; exact List.any_eq_true.mpr ⟨g,hg,decide_eq_true e⟩)
  rw [g0]
  simp [sG]
theorem qkM (gs:Gs)(r:List Int × Int):(addG gs r).map (·.1)=if gs.any (fun g=>decide (g.1=r.1))=true then gs.map (·.1) else gs.map (·.1) ++ [r.1]:=by
 unfold addG
 by_cases c:gs.any (fun g=>decide (g.1=r.1))=true
 ·rw [if_pos c,if_pos c,List.map_map]
  refine List.map_congr_left fun g _=>?_
  show (if g.1=r.1 then (g.1,g.2 ++ [r.2]) else g).1=g.1
  split <;> rfl
 ·rw [if_neg c,if_neg c]; simp
theorem qnO {gs:Gs}(nd:(gs.map (·.1)).Nodup)(r:List Int × Int):((addG gs r).map (·.1)).Nodup:=by
 rw [qkM]
 by_cases c:gs.any (fun g=>decide (g.1=r.1))=true
 ·rw [if_pos c]; exact nd
 ·rw [if_neg c]
  refine List.nodup_append.mpr ⟨nd,by simp,fun x hx y hy z=>?_⟩
  rw [List.mem_singleton] at hy
  subst hy z
  obtain ⟨g,hg,e⟩:=List.mem_map.mp hx
  exact c (List.any_eq_true.mpr ⟨g,hg,decide_eq_true e⟩)
theorem qdt (m:Mp):∀ j,((grpF (m.take j)).map (·.1)).Nodup/\(grpF (m.take j)).map sG=gath (m.take j)
 | 0=>by simp [grpF,gath]
 | j + 1=>by
  have ih:=qdt m j
  cases h:m[j]? with
  | none=>rw [List.take_add_one,h]; simpa using ih
  | some r=>rw [take_snoc h,qcs,qct]; exact ⟨qnO ih.1 r,by rw [qnN ih.1,ih.2]⟩
theorem qi3 (m:Mp):∀ j,∀ g∈grpF (m.take j),(∀ x∈g.2,x∈qap m)/\g.1∈qac m
 | 0,g,h=>by simp [grpF] at h
 | j + 1,g,h=>by
  have ih:=qi3 m j
  cases hr:m[j]? with
  | none=>rw [List.take_add_one,hr] at h; exact ih g (by simpa using h)
  | some r =>
   have rm:r∈m:=List.mem_of_getElem? hr
   rw [take_snoc hr,qcs] at h
   unfold addG at h
   split at h
   ·obtain ⟨g',hg',rfl⟩:=List.mem_map.mp h
    have:=ih g' hg'
    by_cases e:g'.1=r.1
    ·rw [if_pos e]
     refine ⟨fun x hx=>?_,this.2⟩
     rcases List.mem_append.mp hx with z | z
     ·exact this.1 x z
     ·rw [List.mem_singleton.mp z]; exact List.mem_map_of_mem rm
    ·rw [if_neg e]; exact this
   ·rcases List.mem_append.mp h with z | z
    ·exact ih g z
    ·rw [List.mem_singleton.mp z]
     exact ⟨fun x hx=>by rw [List.mem_singleton.mp hx]; exact List.mem_map_of_mem rm,List.mem_map_of_mem rm⟩
theorem qfy (k:List Int):∀ kws:List (List Int × V),valV (kws.map kI) (k.map Sum.inl)=(kws.find? fun p=>decide (p.1=k)).map (·.2)
 | []=>rfl
 | p :: m=>by
  rw [List.map_cons,List.find?_cons]
  by_cases e:p.1=k
  ·rw [qca (by simp [kI,e]),decide_eq_true e]; rfl
  ·rw [qcb (by simp [kI,qds,e]),decide_eq_false e]; exact qfy k m
theorem qlI {k:List Int}{z:V}{kws:List (List Int × V)}(h:∀ p∈kws,p.1≠k):putK (kws.map kI) (k.map Sum.inl) z=(kws ++ [(k,z)]).map kI:=by
 unfold putK
 rw [if_neg]
 ·rw [List.map_append]; rfl
 ·simp only [List.any_map,List.any_eq_true,not_exists,not_and]
  intro x hx e
  exact h x hx (qds.mp (of_decide_eq_true e))
def Gr (H:Hp)(W:Int)(kw:List Int × V)(g:List Int × List Int):Prop:=kw.1=g.1/\∃ a ys,kw.2 = .ref a/\H a=some (.lst ys)/\Shs H ys (g.2.map fun x=>Rat.divInt x W)
theorem qf4 {H:Hp}{W:Int}:∀ {kws:List (List Int × V)} {gs:Gs},Paired (Gr H W) kws gs->kws.map (·.1)=gs.map (·.1)
 | _,_,.nil=>rfl
 | _,_,.cons h t=>by rw [List.map_cons,List.map_cons,h.1,qf4 t]
theorem qec {H H':Hp}(k:∀ b xs,H b=some (.tup xs)->H' b=some (.tup xs)){ys:List V}{qs:List Rat}(h:Shs H ys qs):Shs H' ys qs:=Paired.mapP h fun _ _ ⟨c,e,z⟩=>⟨c,e,k _ _ z⟩
theorem qlb {H:Hp}{W:Int}{k:List Int}{a:Addr}{ys:List V}{v:V}{x:Int}(ha:H a=some (.lst ys))(hv:ShAt H v (Rat.divInt x W)):∀ {kws:List (List Int × V)} {gs:Gs},Paired (Gr H W) kws gs->(kws.map (·.2)).Nodup->(∀ p∈kws,p.2 = .ref a->p.1=k)->(∀ p∈kws,p.1=k->p.2 = .ref a) ->
  Paired (Gr (upd H a (.lst (ys ++ [v]))) W) kws (gs.map fun g=>if g.1=k then (g.1,g.2 ++ [x]) else g)
 | _,_,.nil,_,_,_ => .nil
 | _,_,.cons (a:=p) (b:=g) h t,nd,h1,h2=>by
  have keep:∀ b xs,H b=some (.tup xs)->upd H a (.lst (ys ++ [v])) b=some (.tup xs):=tupL ha
  have ih:=qlb ha hv t (List.nodup_cons.mp nd).2 (fun q hq=>h1 q (List.mem_cons_of_mem _ hq)) fun q hq=>h2 q (List.mem_cons_of_mem _ hq)
  refine .cons ?_ ih
  obtain ⟨e1,a',ys',e2,e3,e4⟩:=h
  show Gr _ _ p (if g.1=k then (g.1,g.2 ++ [x]) else g)
  by_cases e:g.1=k
  ·rw [if_pos e]
   have:=h2 p List.mem_cons_self (e1.trans e)
   rw [e2] at this
   cases this
   rw [ha] at e3
   cases e3
   refine ⟨e1,a,ys ++ [v],e2,uS,?_⟩
   show Shs _ _ ((g.2 ++ [x]).map _)
   rw [List.map_append]
   exact Shs.snoc (let ⟨c,e,z⟩:=hv; ⟨c,e,keep _ _ z⟩) (qec keep e4)
  ·rw [if_neg e]
   have ne:a'≠a:=fun z=>e (by rw [<- e1]; exact h1 p List.mem_cons_self (by rw [e2,z]))
   exact ⟨e1,a',ys',e2,by rw [uE ne]; exact e3,qec keep e4⟩
theorem qdm {α β:Type}{f:α->β}:∀ {l:List α},(l.map f).Nodup->∀ {x y:α},x∈l->y∈l->f x=f y->x=y
 | [],_,x,y,hx,_,_=>by cases hx
 | a :: l,nd,x,y,hx,hy,e=>by
  rw [List.map_cons,List.nodup_cons] at nd
  rcases List.mem_cons.mp hx with e1 | hx1
  ·rcases List.mem_cons.mp hy with e2 | hy1
   ·rw [e1,e2]
   ·exact absurd (by rw [<- e1,e]; exact List.mem_map_of_mem hy1) nd.1
  ·rcases List.mem_cons.mp hy with e2 | hy1
   ·exact absurd (by rw [<- e2,<- e]; exact List.mem_map_of_mem hx1) nd.1
   ·exact qdm nd.2 hx1 hy1 e
theorem qi4 (m:Mp):∀ j,∀ g∈grpF (m.take j),g.2.length≤j
 | 0,g,h=>by simp [grpF] at h
 | j + 1,g,h=>by
  have ih:=qi4 m j
  cases hr:m[j]? with
  | none=>rw [List.take_add_one,hr] at h; have:=ih g (by simpa using h); omega
  | some r =>
   rw [take_snoc hr,qcs] at h
   unfold addG at h
   split at h
   ·obtain ⟨g',hg',rfl⟩:=List.mem_map.mp h
    have:=ih g' hg'
    by_cases e:g'.1=r.1
    ·rw [if_pos e]; simp; omega
    ·rw [if_neg e]; omega
   ·rcases List.mem_append.mp h with z | z
    ·have:=ih g z; omega
    ·rw [List.mem_singleton.mp z]; simp
theorem qjc {kws:List (List Int × V)}{k:List Int}:(∃ p,kws.find? (fun p=>decide (p.1=k))=some p/\p∈kws/\p.1=k)\/(kws.find? (fun p=>decide (p.1=k))=none/\∀ p∈kws,p.1≠k):=by
 cases h:kws.find? (fun p=>decide (p.1=k)) with
 | none=>exact .inr ⟨rfl,fun p hp e=>by have:=List.find?_eq_none.mp h p hp; simp [e] at this⟩
 | some p=>exact .inl ⟨p,rfl,List.mem_of_find?_eq_some h,by simpa using List.find?_some h⟩
theorem qhE {a b S:Int}(hS:0 < S):Rat.divInt a S + Rat.divInt b S=Rat.divInt (a + b) S:=by
 rw [Rat.divInt_add_divInt _ _ (by omega) (by omega),Rat.divInt_eq_divInt_iff (by have:=Int.mul_pos hS hS; omega) (by omega),<- Int.add_mul,Int.mul_assoc]
theorem qfj {W:Int}(hW:0 < W):∀ (ns:List Int) (a:Int),(ns.map fun x=>Rat.divInt x W).foldl (· + ·) (Rat.divInt a W)=Rat.divInt (a + ns.sum) W
 | [],a=>by simp
 | x :: ns,a=>by rw [List.map_cons,List.foldl_cons,qhE hW,qfj hW ns,List.sum_cons,Int.add_assoc]
theorem qdU {W:Int}(hW:0 < W)(ns:List Int):(ns.map fun x=>Rat.divInt x W).foldl (· + ·) 0=Rat.divInt ns.sum W:=by
 have:=qfj hW ns 0
 rwa [Rat.zero_divInt,Int.zero_add] at this
theorem qbk:∀ {cs:List Int} (i:Nat),(∀ x∈cs,0≤x)->0≤(cs.take i).sum/\(cs.take i).sum≤cs.sum
 | [],i,_=>by simp
 | c :: cs,0,h=>by
  have:=qbk (cs:=cs) 0 fun x hx=>h x (by simp [hx])
  have:=h c (by simp)
  simp only [List.take_zero,List.sum_nil,List.sum_cons] at *
  omega
 | c :: cs,i + 1,h=>by
  have:=qbk (cs:=cs) i fun x hx=>h x (by simp [hx])
  have:=h c (by simp)
  simp only [List.take_succ_cons,List.sum_cons]
  omega
theorem qnw {m:Mp}(nn:∀ p∈m,0≤p.2){g:List Int × List Int}(hg:g∈grpF m):0≤g.2.sum/\g.2.sum≤(qap m).sum/\∀ x∈g.2,0≤x:=by
 have ga:=qdt m m.length
 have gm:=qi3 m m.length
 rw [List.take_length] at ga gm
 have gn:∀ g∈grpF m,∀ x∈g.2,0≤x:=fun g hg x hx=>by
  have:=(gm g hg).1 x hx
  obtain ⟨p,hp,rfl⟩:=List.mem_map.mp this
  exact nn p hp
 have gs0:∀ g∈grpF m,0≤g.2.sum:=fun g hg=>(qbk 0 (gn g hg)).1 |> fun _=>by have:=qbk g.2.length (gn g hg); rw [List.take_length] at this; exact this.1
 refine ⟨gs0 g hg,?_,gn g hg⟩
 have hs:=qg2 m
 rw [<- ga.2] at hs
 rw [<- hs]
 have:∀ (l:List Int),(∀ x∈l,0≤x)->∀ x∈l,x≤l.sum:=fun l=>by
  induction l with
  | nil=>intro _ x hx; cases hx
  | cons a l ih =>
   intro h x hx
   have h0:=qbk (cs:=l) l.length fun x hx=>h x (by simp [hx])
   rw [List.take_length] at h0
   have:=h a (by simp)
   rw [List.sum_cons]
   rcases List.mem_cons.mp hx with rfl | hx
   ·omega
   ·have:=ih (fun x hx=>h x (by simp [hx])) x hx; omega
 refine this _ (fun x hx=>?_) _ ?_
 ·obtain ⟨p,hp,rfl⟩:=List.mem_map.mp hx
  obtain ⟨g',hg',rfl⟩:=List.mem_map.mp hp
  exact gs0 g' hg'
 ·exact List.mem_map.mpr ⟨sG g,List.mem_map_of_mem hg,rfl⟩
section
variable {P:Program}{w:World}{K:PySem.W.Frag}{mg:Str->Option Value}{base:Heap}
def qgj:Sp:=fun vs H Q _=>∃ (l:Addr) (xs:List V) (m:Mp) (W:Int),vs=[.ref l]/\H l=some (.lst xs)/\Paired (RwAt H) xs (m.map fun p=>(p.1,Rat.divInt p.2 W))/\0 < W/\Bt 2000 W/\(∀ p∈m,0≤p.2)/\Bt 2000 (qap m).sum/\m.length≤4000 /\
 ∀ (l':Addr) (H':Hp),Same H H'->H l'=none->SpAt H' l' (sprF (gath m) W)->Q (.ref l') H'
theorem qiA (T:Txt2 mg)(C_total:Cal P w K mg base "total" ["some"] 3 qh7)(F:FunAt K mg "summed" ["rows"] s_summed):Cal P w K mg base "summed" ["rows"] 4 qgj:=by
 have S:=qeS
 refine F.cal qeS (fun vs H Q E h=>?_) (fun f cdv A outer s H vs Q E hr h=>?_)
 ·obtain ⟨l,xs,m,W,rfl,_⟩:=h; rfl
 obtain ⟨l,xs,m,W,rfl,hl,rws,W0,bW,nn,bS,m1,k⟩:=h
 have hu1:=qhA hr
 have hu2:=qla hr
 refine ⟨_,(@pK _ _ _ _ _ (@pZ _ _ (1) _ _ _ _ (by exact S.nd) ⋯ ⋯ qei ⋯ ⋯) (@pK _ _ _ _ _ (@qbd _ _ _ _ _ _ _ _ (by exact PassesOwn.never) ⋯ (@qa5 _ _ _ _ (pv 0)) (@qcT _ _ _ _ _ _ ⋯ (@qaf _ _ _ _ _ (@pG _ _ (2) _ (by exact S.nd) ⋯ ⋯ ⋯) (@qaf _ _ _ _ _ (@pG _ _ (3) _ (by exact S.nd) ⋯ ⋯ ⋯) qaX ⋯) ⋯) ⋯ ⋯) (@pO _ _ _ (@qbZ _ _ _ _ (@qiv _ _ _ _ _ _ _ _ _ _ _ _ (by exact PySem.F.plainAttrs_list) (by exact PySem.F.slot_list_append) (by exact PySem.F.type_list_append) qcl (@qka _ _ _ _ _ _ _ _ _ (by exact hu1) (pv 1) (pv 2) (@qaG _ _ _ _ pN) (by exact ⟨rfl,rfl,rfl,rfl⟩)) (@pC _ _ _ _ _ (pv 3) pN ⋯) ⋯ ⋯ ⋯ ⋯ ⋯) ⋯)) ⋯) (@pO _ _ _ (@qan _ _ _ _ (@qcF _ _ _ _ _ _ _ _ _ _ _ _ _ ⋯ (by exact (fun _ _ h=>h)) (by decide +kernel) ⋯ (by decide +kernel) (by exact qbH rfl) (by exact Sees.frees ["thing", "some"] [] qbJ) (@qa5 _ _ _ _ (@qak _ _ _ _ _ _ _ _ _ (qcX ⋯ hu2) ⋯ (by exact T.z_sorted) (by exact qdy) (@pC _ _ _ _ _ (@qgG _ _ _ _ _ (pv 1) ⋯ ⋯) pN ⋯) ⋯ ⋯ ⋯ ⋯)) (fun _ _ _ _ _ => @qb0 _ _ _ _ _ (2) ⋯ (@qaf _ _ _ _ _ (@pG _ _ (0) _ (by exact (show (["thing", "some"]:List Str).Nodup by decide +kernel)) ⋯ ⋯ ⋯) (@qaf _ _ _ _ _ (@pG _ _ (1) _ (by exact (show (["thing", "some"]:List Str).Nodup by decide +kernel)) ⋯ ⋯ ⋯) qaX ⋯) ⋯) ⋯ ⋯) (fun _ _ _ _ _=>qbi) (fun _ _ _ _ _=>(@qag _ _ _ _ _ (@pC _ _ _ _ _ (pv 0) (@pC _ _ _ _ _ (@cc _ _ _ _ _ _ _ _ _ _ (by exact C_total) (by exact (hr.mono (by decide))) (@pC _ _ _ _ _ (pv 1) pN ⋯) ⋯ ⋯ ⋯ ⋯) pN ⋯) ⋯))) ⋯))))),?_⟩
 have xl:=Paired.length rws
 rw [List.length_map] at xl
 refine fun d hd=>?_
 have s_A0:=sN hd (.dT [])
 have g_d:upd H d (.dT []) d=some (.dT []):=uS
 generalize upd H d (.dT [])=A0 at s_A0 g_d ⊢
 have ld:l≠d:=qab hl hd
 refine gN_ ⟨_,rfl,l,rfl,⟨_,SqL.of (s_A0 _ _ hl)⟩,qhC (qaF (xs:=xs)) (fun i σ H'=>Same H H'/\(∃ o2 o3,σ=[some (.ref l),some (.ref d),o2,o3])/\∃ kws,H' d=some (.dT (kws.map kI))/\Paired (Gr H' W) kws (grpF (m.take i))/\(kws.map (·.2)).Nodup/\∀ p∈kws,∃ a,p.2 = .ref a/\H a=none) ?_ ?_ ?_ ?_⟩
 ·exact ⟨s_A0,⟨_,_,rfl⟩,[],g_d,.nil,by simp,fun p hp=>by cases hp⟩
 ·rintro i σ H' ⟨s',_⟩
  exact s' _ _ hl
 ·rintro i x σ X1 H1 hi ⟨s1,⟨o2,o3,rfl⟩,kws,hd1,gr,nd,new⟩ ⟨rfl,hx⟩
  obtain ⟨r,hri,a1,b1,v2,rfl,ha1,hb1,hv2⟩:=qah rws hx
  rw [List.getElem?_map,Option.map_eq_some_iff] at hri
  obtain ⟨e,he,rfl⟩:=hri
  dsimp only at hb1 hv2
  refine ⟨a1,_,rfl,SqT.of (s1 _ _ ha1),rfl,_,_,rfl,_,_,rfl,rfl,?_⟩
  refine ⟨_,rfl,d,rfl,.inr ⟨_,.inl hd1⟩,_,rfl,lz 0 rfl,fun q hq=>?_⟩
  have s_H2:=sN hq (.lst [])
  have g_q:upd H1 q (.lst []) q=some (.lst []):=uS
  generalize upd H1 q (.lst [])=H2 at s_H2 g_q ⊢
  have hd2:=s_H2 _ _ hd1
  have hb2:=(s1.trans s_H2) _ _ hb1
  have hv2':=hv2.same (s1.trans s_H2)
  have kl:kws.length≤i:=by
   have h1:=Paired.length gr
   have h2:(grpF (m.take i)).length≤(m.take i).length:=by
    have h3:=(qdt m i).2
    have h4:=qc3 (m.take i)
    rw [<- h3,List.length_map] at h4
    exact h4
   rw [List.length_take] at h2
   omega
  have im:i < m.length:=by omega
  have gr2:Paired (Gr H2 W) kws (grpF (m.take i)):=Paired.mapP gr fun _ _ ⟨e1,a,ys,e2,e3,e4⟩=>⟨e1,a,ys,e2,s_H2 _ _ e3,Shs.same s_H2 e4⟩
  have keys:=qf4 gr
  refine ⟨_,e.1.map Sum.inl,b1,hd2,rfl,qcV hb2,by rw [List.length_map,sizeLine_eq]; omega,fun v hv=>?_,fun hv=>?_⟩
  ·rw [qfy] at hv
   rcases qjc (kws:=kws) (k:=e.1) with ⟨p,hp,pm,pk⟩ | ⟨hp,_⟩
   ·rw [hp] at hv
    cases hv
    obtain ⟨g,hg,e1,a,ys,e2,e3,e4⟩:=qah gr2 (List.getElem?_of_mem pm).choose_spec
    dsimp only
    rw [e2]
    obtain ⟨a',e2',hnew⟩:=new p pm
    rw [e2] at e2'
    cases e2'
    have ysl:ys.length≤i:=by
     have h1:=Shs.length e4
     have h2:=qi4 m i g (List.mem_of_getElem? hg)
     rw [List.length_map] at h1
     omega
    refine ⟨.inl ⟨rfl,_,SqL.of e3⟩,_,rfl,a,ys,_,rfl,rfl,e3,lzl (by omega),?_⟩
    have ad:a≠d:=fun z=>by rw [z,hd2] at e3; cases e3
    refine ⟨fun b u eb=>?_,⟨_,_,rfl⟩,kws,by rw [uE (Ne.symm ad)]; exact hd2,?_,nd,new⟩
    ·rw [uE (qab eb hnew)]; exact (s1.trans s_H2) _ _ eb
    ·rw [take_snoc he,qcs]
     have hany:(grpF (m.take i)).any (fun g=>decide (g.1=e.1))=true:=by
      refine List.any_eq_true.mpr ⟨g,List.mem_of_getElem? hg,decide_eq_true ?_⟩
      rw [<- e1,pk]
     unfold addG
     rw [if_pos hany]
     refine qlb e3 hv2' gr2 nd (fun p' hp' z=>?_) (fun p' hp' z=>?_)
     ·rw [<- pk,qdm nd hp' pm (by rw [z,e2])]
     ·rw [qdm (f:=(·.1)) (by rw [keys]; exact (qdt m i).1) hp' pm (z.trans pk.symm),e2]
   ·rw [hp] at hv; cases hv
  ·rw [qfy] at hv
   rcases qjc (kws:=kws) (k:=e.1) with ⟨p,hp,pm,pk⟩ | ⟨hp,hno⟩
   ·rw [hp] at hv; cases hv
   have dq:d≠q:=qab hd1 hq
   have hq3:upd H2 d (.dT (putK (kws.map kI) (e.1.map Sum.inl) (.ref q))) q=some (.lst []):=by rw [uE (Ne.symm dq)]; exact g_q
   refine ⟨.inl ⟨rfl,_,SqL.of hq3⟩,_,rfl,q,[],_,rfl,rfl,hq3,lzl (by simp),?_⟩
   rw [qlI hno]
   have hqn:H q=none:=none_of s1 hq
   have keepT:∀ b xs,H2 b=some (.tup xs)->upd (upd H2 d (.dT ((kws ++ [(e.1,V.ref q)]).map kI))) q (.lst ([] ++ [v2])) b=some (.tup xs):=fun b xs eb=>by
    rw [uE (fun z=>by rw [z,g_q] at eb; cases eb),uE (fun z=>by rw [z,hd2] at eb; cases eb)]; exact eb
   refine ⟨fun b u eb=>?_,⟨_,_,rfl⟩,kws ++ [(e.1,V.ref q)],by rw [uE dq,uS],?_,?_,?_⟩
   ·rw [uE (qab eb hqn),uE (qab eb hd)]; exact (s1.trans s_H2) _ _ eb
   ·rw [take_snoc he,qcs]
    have hany:¬ (grpF (m.take i)).any (fun g=>decide (g.1=e.1))=true:=fun z=>by
     obtain ⟨g,hg,eg⟩:=List.any_eq_true.mp z
     have:g.1∈kws.map (·.1):=by rw [keys]; exact List.mem_map_of_mem hg
     obtain ⟨p,hp,ep⟩:=List.mem_map.mp this
     exact hno p hp (ep.trans (of_decide_eq_true eg))
    unfold addG
    rw [if_neg hany]
    refine qaC (Paired.mapP gr fun p' g' ⟨e1,a,ys,e2,e3,e4⟩=>⟨e1,a,ys,e2,?_,qec (fun b xs eb=>keepT b xs (s_H2 _ _ eb)) e4⟩) ⟨rfl,q,[v2],rfl,uS,.cons (let ⟨c,ec,hc⟩:=hv2'; ⟨c,ec,keepT _ _ hc⟩) .nil⟩
    rw [uE (qab e3 hq),uE (fun z=>by rw [z,hd1] at e3; cases e3)]; exact s_H2 _ _ e3
   ·rw [List.map_append]
    refine List.nodup_append.mpr ⟨nd,by simp,fun x hx y hy z=>?_⟩
    obtain ⟨p,hp,rfl⟩:=List.mem_map.mp hx
    obtain ⟨j,hj⟩:=List.getElem?_of_mem hp
    obtain ⟨g,_,_,a,ys,e2,e3,_⟩:=qah gr hj
    rw [List.map_cons,List.map_nil,List.mem_singleton] at hy
    rw [hy,e2] at z
    cases z
    rw [e3] at hq; cases hq
   ·intro p hp
    rcases List.mem_append.mp hp with z | z
    ·exact new p z
    ·rw [List.mem_singleton.mp z]; exact ⟨q,rfl,hqn⟩
 ·rintro σ H1 ⟨s1,⟨o2,o3,rfl⟩,kws,hd1,gr,nd,new⟩
  rw [xl,List.take_length] at gr
  have ga:=qdt m m.length
  rw [List.take_length] at ga
  have keys:=qf4 gr
  have knd:(qac (gath m)).Nodup:=qbR m
  have klen:kws.length≤4000:=by
   have h1:=Paired.length gr
   have h4:=qc3 m
   rw [<- ga.2,List.length_map] at h4
   omega
  have kg:kws.map (·.1)=qac (gath m):=by rw [keys,<- ga.2,qf1]
  refine ⟨_,rfl,d,_,rfl,.inl hd1,fun v hv=>?_⟩
  have s2:=sN hv (itV v d)
  refine ⟨v,d,kws,rfl,uS,.inl (s2 _ _ hd1),by omega,fun H3 q as rs s3 hq pm ri pr=>?_⟩
  have s4:=sN hq (.lst (as.map V.ref))
  have sA:=s2.trans (s3.trans s4)
  have rk:rs.map (·.1)=rise (qac (gath m)):=qfH (by rw [<- kg]; exact pm.map _) ri
  have al:as.length=rs.length:=Paired.length pr
  have rl:rs.length=kws.length:=pm.length_eq
  refine ⟨q,rfl,⟨_,SqL.of uS⟩,qcW (qaF (xs:=as.map V.ref)) (fun p i ys σ' H'=>Same (upd H3 q (.lst (as.map V.ref))) H'/\(∃ o1 o2,σ'=[o1,o2])/\Paired (RwAt H') ys ((sprF (gath m) W).take i)) (by simp; omega) ?_ ?_ ?_ ?_⟩
  ·intro p hp
   exact ⟨sN hp _,⟨_,_,rfl⟩,.nil⟩
  ·rintro p i ys σ' H' hp ⟨s',_⟩
   exact s' _ _ uS
  ·rintro p i ys σ' H' x H'' hp hi hl ⟨s',⟨o1,o2,rfl⟩,pr'⟩ hp' ⟨rfl,hx⟩ Q1 Q2 h1 h2
   rw [List.getElem?_map,Option.map_eq_some_iff] at hx
   obtain ⟨a,ha,rfl⟩:=hx
   obtain ⟨r,hri,b,hb1,hb2,hb3⟩:=qah pr ha
   have rm:r∈kws:=pm.mem_iff.mp (List.mem_of_getElem? hri)
   obtain ⟨j,hj⟩:=List.getElem?_of_mem rm
   obtain ⟨g,hgj,e1,c,zs,e2,e3,e4⟩:=qah gr hj
   have gm:g∈grpF m:=List.mem_of_getElem? hgj
   obtain ⟨g0,g1,gn⟩:=qnw nn gm
   have hri':(rise (qac (gath m)))[i]?=some g.1:=by rw [<- rk,List.getElem?_map,hri,<- e1]; rfl
   have getg:getM (gath m) g.1=g.2.sum:=by
    have:=qbf knd (p:=sG g) (by rw [<- ga.2]; exact List.mem_map_of_mem gm)
    exact this
   have ha':=(s4.trans s') _ _ hb3
   have hb':=(s3.trans (s4.trans s')) _ _ hb1
   rw [e2] at ha'
   refine ⟨a,_,rfl,ha',rfl,_,_,rfl,_,_,rfl,rfl,?_⟩
   refine tT_ (iteT ?_)
   have sAll:=s2.trans (s3.trans (s4.trans s'))
   have sbx:∀ x:Int,0≤x->x≤(qap m).sum->SB 3000 (Rat.divInt x W):=fun x h0 h1=>(SB.divInt (bS.of_le (by omega)) bW W0).mono (by decide)
   refine ⟨_,rfl,_,rfl,c,zs,g.2.map (fun x=>Rat.divInt x W),rfl,sAll _ _ e3,Shs.same sAll e4,fun q hq=>?_,fun u=>?_,fun v2 H5 s5 pa=>?_⟩
   ·obtain ⟨x,hx,rfl⟩:=List.mem_map.mp hq
    have h0:=gn x hx
    have:x≤g.2.sum:=by
     obtain ⟨u,hu⟩:=List.getElem?_of_mem hx
     have h3:=qbk (u + 1) gn
     have h4:=qbk u gn
     rw [take_snoc hu,List.sum_append] at h3
     simp at h3
     omega
    exact sbx x h0 (by omega)
   ·rw [<- List.map_take,qdU W0]
    have h3:=qbk u gn
    exact sbx _ h3.1 (by omega)
   rw [qdU W0,<- getg] at pa
   refine ⟨lz 2 rfl,fun t ht=>h1 _ _ _ ?_ ?_⟩
   ·exact sN ht _ _ _ (s5 _ _ hp')
   ·have s6:=sN ht (.tup [.ref b,v2])
    have hp6:=s6 _ _ (s5 _ _ hp')
    refine ⟨qa8 hp (s'.trans (s5.trans s6)) _,⟨_,_,rfl⟩,?_⟩
    have hs:(sprF (gath m) W)[i]?=some (g.1,Rat.divInt (getM (gath m) g.1) W):=by unfold sprF; rw [List.getElem?_map,hri']; rfl
    rw [take_snoc hs]
    rw [e1] at hb'
    refine qaC (Paired.mapP pr' fun _ _ z=>z.imp fun b xs e=>tupL hp6 _ _ ((s5.trans s6) _ _ e)) ⟨t,b,v2,rfl,tupL hp6 _ _ uS,tupL hp6 _ _ ((s5.trans s6) _ _ hb'),?_⟩
    obtain ⟨c,e2,h3⟩:=pa
    exact ⟨c,e2,tupL hp6 _ _ (s6 _ _ h3)⟩
  ·rintro p ys σ' H' hp ⟨s',_,pr'⟩ hp' hl
   refine k p H' (s1.trans (sA.trans s')) (none_of (s1.trans sA) hp) ⟨ys,hp',?_⟩
   have:(sprF (gath m) W).length=rs.length:=by unfold sprF; rw [List.length_map,<- rk,List.length_map]
   rw [List.length_map,al,<- this,List.take_length] at pr'
   exact pr'
end
theorem qgh {ns:List Int}{j:Nat}(h:j < ns.length):(ns.set j (ns.getD j 0 + 1)).sum=ns.sum + 1:=by
 induction ns generalizing j with
 | nil=>simp at h
 | cons a ns ih =>
  cases j with
  | zero=>simp; omega
  | succ j =>
   have:=ih (j:=j) (by simpa using h)
   simp only [List.set_cons_succ,List.sum_cons,List.getD_cons_succ]
   rw [this]; omega
theorem qiJ {ns:List Int}{j:Nat}(h:∀ x∈ns,0≤x):∀ x∈ns.set j (ns.getD j 0 + 1),0≤x:=by
 intro x hx
 rcases List.mem_or_eq_of_mem_set hx with z | z
 ·exact h x z
 ·subst z
  rw [List.getD_eq_getElem?_getD]
  cases e:ns[j]? with
  | none=>simp
  | some y=>have:=h y (List.mem_of_getElem? e); simp; omega
theorem qnr (x:Int)(k:Nat):(List.replicate k [V.int x]).flatten=iv (List.replicate k x):=rep1 x k
section
variable {P:Program}{w:World}{K:PySem.W.Frag}{mg:Str->Option Value}{base:Heap}
def qgk:Sp:=fun vs H Q _=>∃ (p:Addr) (n:Nat) (b:Nat) (m:Nat),vs=[.ref p,.int (n:Int),.int (b:Int)]/\1≤n/\n≤6/\b≤40/\Pen H p m/\m < 60000/\∀ (a:Addr) (ns:List Int) (H':Hp),H' a=some (.tup (iv ns))->ns.length=n->(∀ x∈ns,0≤x)->ns.sum=b->Pen H' p (m + 42)->qa9 p H H'->Q (.ref a) H'
theorem qiB (T:Txt2 mg)(C_l_draw:Cal P w K mg base "_law_draw" ["_law_pen_here", "_law_many"] 1 qgo)(F:FunAt K mg "_law_stand" ["_law_pen_here", "_law_n", "_law_balls"] s_l_stand):Cal P w K mg base "_law_stand" ["_law_pen_here", "_law_n", "_law_balls"] 2 qgk:=by
 have S:=qdP
 refine F.cal qdP (fun vs H Q E h=>?_) (fun f cdv A outer s H vs Q E hr h=>?_)
 ·obtain ⟨p,n,b,m,rfl,_⟩:=h; rfl
 obtain ⟨p,n,b,m,rfl,n1,n6,b40,hp,hm,k⟩:=h
 refine ⟨_,(@pK _ _ _ _ _ (@pZ _ _ (3) _ _ _ _ (by exact S.nd) ⋯ ⋯ (@pP _ _ _ _ _ _ _ _ qix (@qaG _ _ _ _ (@pC _ _ _ _ _ pI pN ⋯)) (pv 1)) ⋯ ⋯) (@pK _ _ _ _ _ (@pZ _ _ (4) _ _ _ _ (by exact S.nd) ⋯ ⋯ (@cc _ _ _ _ _ _ _ _ _ _ (by exact C_l_draw) (by exact (hr.mono (by decide))) (@pC _ _ _ _ _ (pv 0) (@pC _ _ _ _ _ pI pN ⋯) ⋯) ⋯ ⋯ ⋯ ⋯) ⋯ ⋯) (@pK _ _ _ _ _ (@pZ _ _ (5) _ _ _ _ (by exact S.nd) ⋯ ⋯ (@cc _ _ _ _ _ _ _ _ _ _ (by exact C_l_draw) (by exact (hr.mono (by decide))) (@pC _ _ _ _ _ (pv 0) (@pC _ _ _ _ _ (pv 1) pN ⋯) ⋯) ⋯ ⋯ ⋯ ⋯) ⋯ ⋯) (@pK _ _ _ _ _ (@qbd _ _ _ _ _ _ _ _ (by exact PassesOwn.never) ⋯ (@qbl _ _ _ _ _ _ ⋯ (by exact T.z_range) (@pC _ _ _ _ _ (pv 2) pN ⋯) ⋯) (@pG _ _ (6) _ (by exact S.nd) ⋯ ⋯ ⋯) (@pK _ _ _ _ _ (@pZ _ _ (7) _ _ _ _ (by exact S.nd) ⋯ ⋯ (@qaw _ _ _ _ _ _ _ qaQ (@qaG _ _ _ _ (@pC _ _ _ _ _ (@pP _ _ _ _ _ _ _ _ qbD (pv 6) (pv 1)) (@pC _ _ _ _ _ (pv 5) (@pC _ _ _ _ _ (@cc _ _ _ _ _ _ _ _ _ _ (by exact C_l_draw) (by exact (hr.mono (by decide))) (@pC _ _ _ _ _ (pv 0) (@pC _ _ _ _ _ (pv 1) pN ⋯) ⋯) ⋯ ⋯ ⋯ ⋯) pN ⋯) ⋯) ⋯)) (pv 4) (by exact (fun _ _=>rfl))) ⋯ ⋯) (@pO _ _ _ (@qgD _ _ _ _ _ _ (@pP _ _ _ _ _ _ _ _ qaP (@qaw _ _ _ _ _ _ _ qaQ (pv 3) (pv 7) (by exact (fun _ _=>rfl))) pI) (@qm7 _ _ _ _ _ _ _ (pv 3) (pv 7) set_list ⋯) ⋯ ⋯ ⋯))) ⋯) (@pO _ _ _ (@qan _ _ _ _ (@qbv _ _ _ _ _ _ _ _ _ qbA ⋯ (by exact T.z_tuple) (by exact qeC) (@pC _ _ _ _ _ (pv 3) pN ⋯) ⋯ ⋯ ⋯ ⋯))))))),?_⟩
 refine ⟨lz 1 rfl,fun q1 hq1=>⟨_,rfl,q1,_,_,rfl,rfl,uS,by omega,by omega,lzz (by simp; omega),fun q2 hq2=>?_⟩⟩
 rw [qnr,Int.toNat_natCast]
 have s1:=sN hq1 (.lst [.int 0])
 have s2:=sN hq2 (.lst (iv (List.replicate n 0)))
 have s12:=s1.trans s2
 have hq2H:H q2=none:=none_of s1 hq2
 refine ⟨_,rfl,p,_,m,rfl,hp.same s12,by omega,by decide,by decide,fun wy H1 w0 w3 p1 x1=>?_⟩
 refine ⟨_,rfl,_,rfl,p,_,_,rfl,p1,by omega,by omega,by omega,fun at' H2 a0 a1 p2 x2=>?_⟩
 have x12:=x1.trans x2
 have hf2:H2 q2=some (.lst (iv (List.replicate n 0))):=(hp.same s12).keep x12 uS
 have xH:qa9 p H H2:=(Same.x s12).trans x12
 refine ⟨_,rfl,(b:Int),rfl,by omega,by omega,qbK (n:=(b:Int).toNat) (fun i σ H'=>Pen H' p (m + 2 + i)/\qa9 p H H'/\∃ (ns:List Int) (o1 o2:Option V),H' q2=some (.lst (iv ns))/\ns.length=n/\(∀ x∈ns,0≤x)/\ns.sum=i/\σ=[some (.ref p),some (.int (n:Int)),some (.int (b:Int)),some (.ref q2),some (.int wy),some (.int at'),o1,o2]) ?_ ?_ ?_⟩
 ·exact ⟨p2,xH,_,_,_,hf2,by simp,fun x hx=>by rw [List.eq_of_mem_replicate hx]; exact Int.le_refl _,by simp,rfl⟩
 ·rintro i σ H3 hi ⟨p3,x3,ns,o1,o2,hf3,nl,nn,nsum,rfl⟩
  refine ⟨_,rfl,_,rfl,_,_,rfl,rfl,(show (0:Int) < n by omega),_,rfl,_,rfl,_,rfl,p,_,_,rfl,p3,by omega,by omega,by omega,fun d H4 d0 d1 p4 x4=>⟨lz 3 rfl,fun q hq=>?_⟩⟩
  have s4:=sN hq (.lst [.int ((0 + (i:Int)) % (n:Int)),.int at',.int d])
  have hf4:=p3.keep x4 hf3
  obtain ⟨bx,hbx,b0,b1⟩:∃ bx:Int,atI [V.int ((0 + (i:Int)) % (n:Int)),.int at',.int d] wy=some (.int bx)/\0≤bx/\bx < n:=by
   have:wy=0\/wy=1\/wy=2:=by omega
   rcases this with rfl | rfl | rfl
   ·exact ⟨_,rfl,Int.emod_nonneg _ (by omega),Int.emod_lt_of_pos _ (by omega)⟩
   ·exact ⟨_,rfl,a0,a1⟩
   ·exact ⟨_,rfl,d0,d1⟩
  refine ⟨_,rfl,q,_,_,_,rfl,rfl,SqL.of uS,hbx,?_⟩
  obtain ⟨j,rfl⟩:∃ j:Nat,bx=(j:Int):=⟨bx.toNat,by omega⟩
  have hj:j < ns.length:=by omega
  have hf5:=s4 _ _ hf4
  refine ⟨_,rfl,_,rfl,q2,_,_,_,rfl,rfl,SqL.of hf5,qaW hj,_,_,rfl,rfl,_,rfl,_,rfl,q2,_,_,j,rfl,rfl,hf5,?_,?_⟩
  ·unfold ixN
   rw [List.length_map,if_pos (by omega),if_pos (by omega)]; simp
  have hns4:=p4.same s4
  obtain ⟨u1,u2⟩:=qgF hq2H hp (x3.trans (x4.trans (Same.x s4))) hns4 (.lst ((iv ns).set j (.int (ns.getD j 0 + 1))))
  exact ⟨u1.mono (by omega),u2,ns.set j (ns.getD j 0 + 1),_,_,by rw [uS,qfc],by simp [nl],qiJ nn,by rw [qgh hj,nsum]; omega,rfl⟩
 ·rintro σ H3 ⟨p3,x3,ns,o1,o2,hf3,nl,nn,nsum,rfl⟩
  refine ⟨_,rfl,q2,iv ns,rfl,.inl ⟨SqL.of hf3,fun t ht=>?_⟩⟩
  have s5:=sN ht (.tup (iv ns))
  exact k t ns _ uS nl nn (by rw [nsum]; omega) ((p3.same s5).mono (by omega)) (x3.trans (Same.x s5))
end
def mulM (f:List Int->Int)(m:Mp):Mp:=m.map fun p=>(p.1,p.2 * f p.1)
theorem ql6 (f:List Int->Int)(m:Mp)(k:List Int):hasM (mulM f m) k=hasM m k:=by unfold hasM mulM; rw [List.any_map]; rfl
theorem qiL (f:List Int->Int):∀ (m:Mp) (k:List Int),getM (mulM f m) k=getM m k * f k
 | [],k=>by show (0:Int)=0 * f k; omega
 | p :: m,k=>by
  show getM ((p.1,p.2 * f p.1) :: mulM f m) k=_
  rw [qaJ,qaJ,qiL f m k]
  by_cases e:p.1=k
  ·rw [if_pos e,if_pos e,e]
  ·rw [if_neg e,if_neg e]
theorem mul_add (f:List Int->Int)(m:Mp)(r:List Int × Int):addM (mulM f m) (r.1,r.2 * f r.1)=mulM f (addM m r):=by
 unfold addM putM
 dsimp only
 rw [ql6,qiL]
 by_cases h:hasM m r.1=true
 ·rw [if_pos h,if_pos h]; unfold mulM; rw [List.map_map,List.map_map]
  refine List.map_congr_left fun p _=>?_
  show (if p.1=r.1 then _ else _)=((if p.1=r.1 then (p.1,getM m r.1 + r.2) else p).1,(if p.1=r.1 then (p.1,getM m r.1 + r.2) else p).2 * f (if p.1=r.1 then (p.1,getM m r.1 + r.2) else p).1)
  by_cases e:p.1=r.1
  ·simp [e,Int.add_mul]
  ·simp only [if_neg e]
 ·rw [if_neg h,if_neg h]; unfold mulM; rw [List.map_append,<- Int.add_mul]; rfl
theorem qkk (f:List Int->Int)(rows:Mp):gath (mulM f rows)=mulM f (gath rows):=by
 have:∀ (rows:Mp) (m:Mp),(mulM f rows).foldl addM (mulM f m)=mulM f (rows.foldl addM m):=by
  intro rows
  induction rows with
  | nil=>intro m; rfl
  | cons r rows ih=>intro m; show (mulM f rows).foldl addM (addM (mulM f m) (r.1,r.2 * f r.1))=_; rw [mul_add,ih]; rfl
 exact this rows []
theorem qjP (f:List Int->Int)(rows:Mp):tot (gath rows) f=tot rows f:=by
 have e:∀ m:Mp,tot m f=(qap (mulM f m)).sum:=fun m=>by unfold tot qap mulM; rw [List.map_map]; rfl
 rw [e,e,<- qkk,qg2]
theorem qcB (a b:Mp)(f:List Int->Int):tot (a ++ b) f=tot a f + tot b f:=by unfold tot; rw [List.map_append,List.sum_append]
theorem qgf (g:List Int->Mp)(f:List Int->Int):∀ m:Mp,tot (qaz m g) f=tot m fun l=>tot (g l) f
 | []=>rfl
 | p :: m=>by
  have e:qaz (p :: m) g=((g p.1).map fun q=>(q.1,p.2 * q.2)) ++ qaz m g:=rfl
  have e2:tot ((g p.1).map fun q=>(q.1,p.2 * q.2)) f=p.2 * tot (g p.1) f:=by
   generalize g p.1=X
   induction X with
   | nil=>simp [tot]
   | cons q X ih =>
    unfold tot at ih ⊢
    simp only [List.map_cons,List.sum_cons]
    rw [ih,Int.mul_add,Int.mul_assoc]
  rw [e,qcB,qgf g f m,e2]
  unfold tot
  simp only [List.map_cons,List.sum_cons]
theorem qh3 {rows:Mp}(h:∀ q∈rows,0 < q.2){k:List Int}(hk:k∈qac rows):0 < qeM rows k:=by
 unfold qeM
 induction rows with
 | nil=>simp [qac] at hk
 | cons r rows ih =>
  have nn:∀ (l:Mp),(∀ q∈l,0 < q.2)->0≤(l.map fun r=>if r.1=k then r.2 else 0).sum:=by
   intro l
   induction l with
   | nil=>intro _; simp
   | cons q l ih =>
    intro h
    rw [List.map_cons,List.sum_cons]
    have h1:=ih fun x hx=>h x (by simp [hx])
    have h2:=h q (by simp)
    split <;> omega
  rw [List.map_cons,List.sum_cons]
  have h1:=nn rows fun x hx=>h x (by simp [hx])
  have h2:=h r (by simp)
  by_cases e:r.1=k
  ·rw [if_pos e]; omega
  ·rw [if_neg e]
   have:k∈qac rows:=by
    simp only [qac,List.map_cons,List.mem_cons] at hk
    rcases hk with z | z
    ·exact absurd z.symm e
    ·exact z
   have:=ih (fun x hx=>h x (by simp [hx])) this
   omega
theorem qdo {α:Type}[DecidableEq α]:∀ {a b:List α},a.Nodup->(∀ x∈a,x∈b)->a.length≤b.length
 | [],_,_,_=>Nat.zero_le _
 | x :: a,b,nd,h=>by
  have hx:=h x (by simp)
  have:=qdo (a:=a) (b:=b.erase x) (List.nodup_cons.mp nd).2 fun y hy=>by
   have ne:y≠x:=fun z=>(List.nodup_cons.mp nd).1 (z ▸ hy)
   exact (List.mem_erase_of_ne ne).mpr (h y (by simp [hy]))
  rw [List.length_erase_of_mem hx] at this
  have:0 < b.length:=List.length_pos_of_mem hx
  simp; omega
def opN (g:List Int->Mp):Nat->(List Int->Int)->List Int->Int
 | 0,f=>f
 | j + 1,f=>fun s=>tot (g s) (opN g j f)
theorem qk3 (g:List Int->Mp):∀ (j:Nat) (f:List Int->Int),opN g (j + 1) f=opN g j (fun s=>tot (g s) f)
 | 0,f=>rfl
 | j + 1,f=>by
  show (fun s=>tot (g s) (opN g (j + 1) f))=fun s=>tot (g s) (opN g j (fun s=>tot (g s) f))
  rw [qk3 g j f]
theorem qhY (n:Nat)(ps:List (Int × Int))(t:Str)(st:List Int):∀ (j:Nat) (f:List Int->Int),tot (itS n ps t st j) f=opN (nxF n ps t) j f st
 | 0,f=>by simp [itS,tot,opN]
 | j + 1,f=>by
  show tot (gath (qaz (itS n ps t st j) (nxF n ps t))) f=_
  rw [qjP,qgf,qhY n ps t st j,qk3]
theorem qdJ (ps:List (Int × Int))(t:Str)(st:List Int)(f:List Int->Int):∀ n,tot (nxF n ps t st) f=((List.range n).map fun i=>bwF ps t st i * f (putS st i)).sum
 | 0=>rfl
 | n + 1=>by
  have ih:=qdJ ps t st f n
  rw [qeq,qbX,qcB,ih,List.sum_append]
  congr 1
  have h:=qjz ps t st n
  by_cases z:0 < bwF ps t st n
  ·rw [if_pos z]; simp [tot]
  ·rw [if_neg z,show bwF ps t st n=0 by omega]; simp [tot]
theorem qex {a b:List Int}(hl:a.length=b.length)(h:∀ i,i < a.length->a.getD i 0=b.getD i 0):a=b:=by
 refine List.ext_getElem hl fun i h1 h2=>?_
 have:=h i h1
 rw [List.getD_eq_getElem?_getD,List.getD_eq_getElem?_getD,List.getElem?_eq_getElem h1,List.getElem?_eq_getElem h2] at this
 exact this
theorem qch {l:List Int}{i:Nat}{v:Int}(j:Nat)(h:i < l.length):(l.set i v).getD j 0=if j=i then v else l.getD j 0:=by
 rw [List.getD_eq_getElem?_getD,List.getElem?_set]
 by_cases e:i=j
 ·subst e; simp [h]
 ·rw [if_neg e,if_neg (fun z=>e z.symm),List.getD_eq_getElem?_getD]
theorem qiY (n:Nat)(ps:List (Int × Int))(t:Str)(st:List Int):∀ j,∀ p∈itS n ps t st j,0 < p.2
 | 0,p,h=>by
  have:=List.mem_singleton.mp h
  subst this
  show (0:Int) < 1
  decide
 | j + 1,p,h=>by
  have nd:=qcq n ps t st (j + 1)
  have h1:=qbf nd h
  have hk:p.1∈qac (qaz (itS n ps t st j) (nxF n ps t)):=(qbp _ _).mp (List.mem_map_of_mem h)
  have h2:getM (itS n ps t st (j + 1)) p.1=qeM (qaz (itS n ps t st j) (nxF n ps t)) p.1:=qkx _ _
  rw [<- h1,h2]
  refine qh3 (fun q hq=>?_) hk
  obtain ⟨r,hr,hq'⟩:=List.mem_flatMap.mp hq
  obtain ⟨u,hu,rfl⟩:=List.mem_map.mp hq'
  obtain ⟨i,_,rfl,gp⟩:=qdk hu
  exact Int.mul_pos (qiY n ps t st j r hr) gp
def indL (k l:List Int):Int:=if l=k then 1 else 0
def comps:Nat->Nat->List (List Int)
 | 0,j=>if j=0 then [[]] else []
 | n + 1,j=>(List.range (j + 1)).flatMap fun x=>(comps n (j - x)).map fun l=>(x:Int) :: l
theorem qdx:∀ (n j:Nat) (e:List Int),e.length=n->(∀ x∈e,0≤x)->e.sum=j->e∈comps n j
 | 0,j,e,h,_,hs=>by
  have:e=[]:=List.length_eq_zero_iff.mp h
  subst this
  have:j=0:=by simp at hs; omega
  subst this
  simp [comps]
 | n + 1,j,e,h,nn,hs=>by
  cases e with
  | nil=>simp at h
  | cons a e =>
   have a0:=nn a (by simp)
   rw [List.sum_cons] at hs
   have s0:=qbk e.length fun x hx=>nn x (List.mem_cons_of_mem a hx)
   rw [List.take_length] at s0
   unfold comps
   rw [List.mem_flatMap]
   refine ⟨a.toNat,List.mem_range.mpr (by omega),List.mem_map.mpr ⟨e,qdx n _ e (by simpa using h) (fun x hx=>nn x (by simp [hx])) (by omega),?_⟩⟩
   rw [show ((a.toNat:Nat):Int)=a by omega]
theorem qll {st e:List Int}(h:st.length=e.length){i:Nat}(hi:i < e.length):putS (List.zipWith (· + ·) st e) i=List.zipWith (· + ·) st (putS e i):=by
 refine qex (by rw [qbe,List.length_zipWith,List.length_zipWith,qbe]) fun j hj=>?_
 rw [qbe,List.length_zipWith] at hj
 have zg:∀ (b:List Int),b.length=e.length->(List.zipWith (· + ·) st b).getD j 0=st.getD j 0 + b.getD j 0:=fun b hb=>by
  rw [List.getD_eq_getElem?_getD,List.getElem?_zipWith,List.getElem?_eq_getElem (by omega),List.getElem?_eq_getElem (by omega),List.getD_eq_getElem?_getD,List.getElem?_eq_getElem (by omega),List.getD_eq_getElem?_getD,List.getElem?_eq_getElem (by omega)]
  rfl
 have zi:(List.zipWith (· + ·) st e).getD i 0=st.getD i 0 + e.getD i 0:=by
  rw [List.getD_eq_getElem?_getD,List.getElem?_zipWith,List.getElem?_eq_getElem (by omega),List.getElem?_eq_getElem (by omega),List.getD_eq_getElem?_getD,List.getElem?_eq_getElem (by omega),List.getD_eq_getElem?_getD,List.getElem?_eq_getElem (by omega)]
  rfl
 rw [zg _ (qbe e i)]
 unfold putS
 rw [qch _ (by rw [List.length_zipWith]; omega),qch _ hi,zg e rfl,zi]
 by_cases z:j=i
 ·subst z; rw [if_pos rfl,if_pos rfl]; omega
 ·rw [if_neg z,if_neg z]
theorem qgA {e:List Int}{i:Nat}(h:i < e.length):(putS e i).sum=e.sum + 1:=qgh h
theorem qgV {n:Nat}{ps:List (Int × Int)}{t:Str}{st:List Int}(hl:st.length=n):∀ j,∀ k∈qac (itS n ps t st j),∃ e:List Int,e.length=n/\(∀ x∈e,0≤x)/\e.sum=j/\k=List.zipWith (· + ·) st e
 | 0,k,hk=>by
  have:k=st:=by simpa [itS,qac] using hk
  refine ⟨List.replicate n 0,by simp,fun x hx=>by rw [(List.mem_replicate.mp hx).2]; decide,by simp,?_⟩
  rw [this]
  refine qex (by simp [hl]) fun i hi=>?_
  rw [List.getD_eq_getElem?_getD (l:=List.zipWith _ _ _),List.getElem?_zipWith,List.getElem?_eq_getElem hi,List.getElem?_eq_getElem (by simpa using by omega)]
  simp [hi]
 | j + 1,k,hk=>by
  have hk':=(qbp _ _).mp hk
  obtain ⟨l,hl',hg⟩:=qbw.mp hk'
  obtain ⟨q,hq,rfl⟩:=List.mem_map.mp hg
  obtain ⟨i,hi,rfl,_⟩:=qdk hq
  obtain ⟨e,e1,e2,e3,rfl⟩:=qgV hl j l hl'
  refine ⟨putS e i,by rw [qbe,e1],qiJ e2,by rw [qgA (by omega),e3]; omega,qll (by omega) (by omega)⟩
theorem qd7 {n a:Nat}(h:a < n)(c:Int):((List.range n).map fun i=>if a=i then c else 0).sum=c:=by
 induction n with
 | zero=>omega
 | succ n ih =>
  rw [qbX,List.sum_append]
  simp only [List.sum_cons,List.sum_nil]
  by_cases e:a=n
  ·subst e
   rw [if_pos rfl]
   have:((List.range a).map fun i=>if a=i then c else 0)=(List.range a).map fun _=>(0:Int):=List.map_congr_left fun i hi=>by have:=List.mem_range.mp hi; rw [if_neg (by omega)]
   rw [this]
   have:∀ l:List Nat,(l.map fun _=>(0:Int)).sum=0:=fun l=>by induction l with
    | nil=>rfl
    | cons a l ih=>rw [List.map_cons,List.sum_cons,ih]; rfl
   rw [this]; omega
  ·rw [if_neg e,ih (by omega)]; omega
theorem qc8 {α:Type}(f g:α->Int):∀ l:List α,(l.map fun a=>f a + g a).sum=(l.map f).sum + (l.map g).sum
 | []=>rfl
 | a :: l=>by simp only [List.map_cons,List.sum_cons,qc8 f g l]; omega
theorem qm2 {n:Nat}{t:Str}{st:List Int}{q:Int × Int}(h1:q.1.toNat < n)(h2:q.2.toNat < n):((List.range n).map fun i=>pw1 t st q i).sum=2:=by
 unfold pw1
 by_cases z:t = "dice" /\ st.getD q.1.toNat 0=st.getD q.2.toNat 0
 ·simp only [if_pos z]
  rw [qc8,qd7 h1,qd7 h2]; rfl
 ·simp only [if_neg z]
  refine qd7 ?_ 2
  split <;> assumption
theorem qjx {n:Nat}{t:Str}{st:List Int}:∀ {ps:List (Int × Int)},Few n ps->((List.range n).map fun i=>bwF ps t st i).sum=2 * ps.length
 | [],_=>by
  have:∀ l:List Nat,(l.map fun i=>bwF [] t st i).sum=0:=fun l=>by induction l with
   | nil=>rfl
   | cons a l ih=>rw [List.map_cons,List.sum_cons,ih]; rfl
  rw [this]; rfl
 | q :: ps,f=>by
  have ih:=qjx (t:=t) (st:=st) (ps:=ps) fun r hr=>f r (List.mem_cons_of_mem _ hr)
  obtain ⟨a,b,c,d⟩:=f q List.mem_cons_self
  have e:((List.range n).map fun i=>bwF (q :: ps) t st i)=(List.range n).map fun i=>pw1 t st q i + bwF ps t st i:=List.map_congr_left fun i _=>by unfold bwF; rw [List.map_cons,List.sum_cons]
  rw [e,qc8,ih,qm2 (by omega) (by omega),List.length_cons]
  omega
theorem qk2 {n:Nat}{ps:List (Int × Int)}{t:Str}(f:Few n ps):∀ (j:Nat) (s:List Int),opN (nxF n ps t) j (fun _=>1) s=(2 * (ps.length:Int)) ^ j
 | 0,s=>by rw [Int.pow_zero]; rfl
 | j + 1,s=>by
  show tot (nxF n ps t s) (opN (nxF n ps t) j fun _=>1)=_
  rw [qdJ]
  have e:((List.range n).map fun i=>bwF ps t s i * opN (nxF n ps t) j (fun _=>1) (putS s i))=(List.range n).map fun i=>bwF ps t s i * (2 * (ps.length:Int)) ^ j:=List.map_congr_left fun i _=>by rw [qk2 f j]
  rw [e]
  have:=qfC ((List.range n).map fun i=>bwF ps t s i) ((2 * (ps.length:Int)) ^ j)
  rw [List.map_map,qjx f] at this
  rw [Int.pow_succ,Int.mul_comm ((2 * (ps.length:Int)) ^ j)]
  exact this
theorem qmi {n:Nat}{ps:List (Int × Int)}{t:Str}{st:List Int}(f:Few n ps)(j:Nat):(qap (itS n ps t st j)).sum=(2 * (ps.length:Int)) ^ j:=by
 rw [<- qk2 (t:=t) f j st,<- qhY]
 unfold tot qap
 congr 1
 exact List.map_congr_left fun p _=>by show p.2=p.2 * 1; omega
theorem qiN {l:List Int}(h:∀ x∈l,0≤x){x:Int}(hx:x∈l):x≤l.sum:=by
 obtain ⟨u,hu⟩:=List.getElem?_of_mem hx
 have h3:=qbk (u + 1) h
 have h4:=qbk u h
 rw [take_snoc hu,List.sum_append] at h3
 simp at h3
 omega
theorem qmX {H:Hp}{d:Addr}{o:Obj}{m:Mp}(h:H d=some (.frz o (dI m))):Rd H d (dI m) := .inr ⟨o,h⟩
def goF (t:Str)(st:List Int)(q:Int × Int):Nat × Nat :=
 if st.getD q.1.toNat 0 < st.getD q.2.toNat 0\/(st.getD q.1.toNat 0=st.getD q.2.toNat 0/\t = "left") then (q.1.toNat,q.1.toNat)
 else if st.getD q.2.toNat 0 < st.getD q.1.toNat 0 then (q.2.toNat,q.2.toNat) else (q.1.toNat,q.2.toNat)
def onQ (t:Str)(st:List Int)(q:Int × Int):Mp:=[(putS st (goF t st q).1,1),(putS st (goF t st q).2,1)]
def onR (ps:List (Int × Int))(t:Str)(st:List Int):Mp:=ps.flatMap (onQ t st)
theorem qlV {ps:List (Int × Int)}{i:Nat}{q:Int × Int}(h:ps[i]?=some q)(t:Str)(st:List Int):onR (ps.take (i + 1)) t st=onR (ps.take i) t st ++ onQ t st q:=by
 unfold onR; rw [take_snoc h,List.flatMap_append]; simp
theorem qk4 (ps:List (Int × Int))(t:Str)(st:List Int):(onR ps t st).length=2 * ps.length:=by
 unfold onR
 induction ps with
 | nil=>rfl
 | cons q ps ih=>rw [List.flatMap_cons,List.length_append,ih]; simp [onQ]; omega
theorem go_lt {n:Nat}{t:Str}{st:List Int}{q:Int × Int}(h1:q.1.toNat < n)(h2:q.2.toNat < n):(goF t st q).1 < n/\(goF t st q).2 < n:=by
 unfold goF; split
 ·exact ⟨h1,h1⟩
 ·split
  ·exact ⟨h2,h2⟩
  ·exact ⟨h1,h2⟩
section
variable {P:Program}{w:World}{K:PySem.W.Frag}{mg:Str->Option Value}{base:Heap}
def qeN:Sp:=fun vs H Q _=>∃ (d:Addr) (m:Mp),vs=[.ref d]/\H d=some (dI m)/\(qac m).Nodup/\(∀ k∈qac m,k≠[])/\m.length < 65536/\(∀ k∈qac m,0≤getM m k)/\0 < (qap m).sum/\Bt 8000 (qap m).sum/\∀ (l:Addr) (H':Hp),Same H H'->H l=none->SpAt H' l (sprF m (qap m).sum)->Q (.ref l) H'
theorem qhq (T:Txt2 mg)(C_l_lowest:Cal P w K mg base "_law_lowest" ["_law_top", "_law_bottom"] 2 qgm)(F:FunAt K mg "_law_spread" ["_law_found"] s_l_spread):Cal P w K mg base "_law_spread" ["_law_found"] 3 qeN:=by
 have S:=qc9
 refine F.cal qc9 (fun vs H Q E h=>?_) (fun f cdv A outer s H vs Q E hr h=>?_)
 ·obtain ⟨d,m,rfl,_⟩:=h; rfl
 obtain ⟨d,m,rfl,hd,nd,ne,few,nn,s0,sb,k⟩:=h
 have hu1:=qhA hr
 refine ⟨_,(@pK _ _ _ _ _ (@pZ _ _ (1) _ _ _ _ (by exact S.nd) ⋯ ⋯ (@qak _ _ _ _ _ _ _ _ _ (qju ⋯) ⋯ (by exact T.z_sum) (by exact qnF) (@pC _ _ _ _ _ (@qis _ _ _ _ _ (pv 0) ⋯ ⋯) pN ⋯) ⋯ ⋯ ⋯ ⋯) ⋯ ⋯) (@pO _ _ _ (@qan _ _ _ _ (@qcF _ _ _ _ _ _ _ _ _ _ _ _ _ ⋯ (by exact (fun _ _ h=>h)) (by decide +kernel) ⋯ (by decide +kernel) (by exact qbH rfl) (by exact Sees.frees ["_law_one"] [("_law_found",0),("_law_whole",1)] (qaI ⟨rfl,rfl⟩ (qaI ⟨rfl,rfl⟩ qbJ))) (@qa5 _ _ _ _ (@qak _ _ _ _ _ _ _ _ _ (qfn ⋯) ⋯ (by exact T.z_sorted) (by exact qdy) (@pC _ _ _ _ _ (pv 0) pN ⋯) ⋯ ⋯ ⋯ ⋯)) (fun _ _ _ _ _ => @pG _ _ (0) _ (by exact (show (["_law_one", "_law_found", "_law_whole"]:List Str).Nodup by decide +kernel)) ⋯ ⋯ ⋯) (fun _ _ _ _ _=>qbi) (fun _ _ _ _ _=>(@qag _ _ _ _ _ (@pC _ _ _ _ _ (pv 0) (@pC _ _ _ _ _ (@cc _ _ _ _ _ _ _ _ _ _ (by exact C_l_lowest) (by exact (hr.mono (by decide))) (@pC _ _ _ _ _ (@qbr _ _ _ _ _ _ (by exact hu1) (pv 1) (pv 0) (by exact (fun _ _=>rfl))) (@pC _ _ _ _ _ (pv 2) pN ⋯) ⋯) ⋯ ⋯ ⋯ ⋯) pN ⋯) ⋯))) ⋯)))),?_⟩
 refine ⟨_,rfl,d,_,rfl,.inl hd,fun v hv=>?_⟩
 have s1:=sN hv (vaV v d)
 refine ⟨v,d,_,qap m,rfl,uS,.inl (s1 _ _ hd),by unfold qap; rw [List.map_map]; show _=List.map V.int _; rw [List.map_map]; rfl,?_⟩
 refine ⟨_,rfl,d,_,qac m,rfl,.inl (s1 _ _ hd),by unfold qac; rw [List.map_map,List.map_map]; rfl,ne,by simpa [qac] using few,fun q bs ms hq pm ri tb=>?_⟩
 have e:=qfH pm ri
 subst e
 have s2:=sN hq (.lst (bs.map V.ref))
 have sA:=s1.trans s2
 have bl:=Paired.length tb
 have kl:(rise (qac m)).length=m.length:=by rw [(qaS _).length_eq]; simp [qac]
 refine ⟨q,rfl,⟨_,SqL.of uS⟩,qcW (qaF (xs:=bs.map V.ref)) (fun p i ys σ' H'=>Same (upd (upd H v (vaV v d)) q (.lst (bs.map V.ref))) H'/\(∃ o1,σ'=[o1,some (.ref d),some (.int (qap m).sum)])/\ys.length=i/\Paired (RwAt H') ys ((sprF m (qap m).sum).take i)) (by simp; omega) ?_ ?_ ?_ ?_⟩
 ·intro p hp
  exact ⟨sN hp _,⟨_,rfl⟩,rfl,.nil⟩
 ·rintro p i ys σ' H' hp ⟨s',_⟩
  exact s' _ _ uS
 ·rintro p i ys σ' H' x H'' hp hi hl ⟨s',⟨o1,rfl⟩,yl,pr'⟩ hp' ⟨rfl,hx⟩ Q1 Q2 h1 h2
  rw [List.getElem?_map,Option.map_eq_some_iff] at hx
  obtain ⟨b,hb,rfl⟩:=hx
  obtain ⟨kk,hk1,hb1⟩:=qah tb hb
  have km:kk∈qac m:=(qaS _).mem_iff.mp (List.mem_of_getElem? hk1)
  have hb':=(s2.trans s') _ _ hb1
  refine gN_ (tT_ (iteT ?_))
  refine ⟨_,rfl,_,rfl,_,rfl,d,_,rfl,by have:=DGet.t ((sA.trans s') _ _ hd) (qcV hb'); rw [qeH km] at this; exact this,_,rfl,_,_,rfl,nn kk km,s0,sb,fun v2 H5 s5 pa=>?_⟩
  rw [low_q s0] at pa
  refine ⟨lz 2 rfl,fun t ht=>h1 _ _ _ ?_ ?_⟩
  ·exact sN ht _ _ _ (s5 _ _ hp')
  ·have s6:=sN ht (.tup [.ref b,v2])
   have hp6:=s6 _ _ (s5 _ _ hp')
   refine ⟨qa8 hp (s'.trans (s5.trans s6)) _,⟨_,rfl⟩,by simp [yl],?_⟩
   have hs:(sprF m (qap m).sum)[i]?=some (kk,Rat.divInt (getM m kk) (qap m).sum):=by unfold sprF; rw [List.getElem?_map,hk1]; rfl
   rw [take_snoc hs]
   refine qaC (Paired.mapP pr' fun _ _ z=>z.imp fun b xs e=>tupL hp6 _ _ ((s5.trans s6) _ _ e)) ⟨t,b,v2,rfl,tupL hp6 _ _ uS,tupL hp6 _ _ ((s5.trans s6) _ _ hb'),?_⟩
   obtain ⟨c,e2,h3⟩:=pa
   exact ⟨c,e2,tupL hp6 _ _ (s6 _ _ h3)⟩
 ·rintro p ys σ' H' hp ⟨s',_,yl,pr'⟩ hp' hl
  refine k p H' (sA.trans s') (none_of sA hp) ⟨ys,hp',?_⟩
  rw [List.length_map,bl] at pr'
  have:(sprF m (qap m).sum).length=(rise (qac m)).length:=by simp [sprF]
  rw [<- this,List.take_length] at pr'
  exact pr'
def spOn:Sp:=fun vs H Q _=>∃ (v:V) (d:Addr) (n:Nat) (ps:List (Int × Int)) (t:Str) (m:Mp),vs=[v,.ref d]/\qbc H v n ps t/\Few n ps/\ps.length≤40/\n≤6/\H d=some (dI m)/\(qac m).Nodup/\m.length≤501/\(∀ k∈qac m,k.length=n) /\
 ∀ (e:Addr) (H':Hp),Same H H'->H e=none->H' e=some (dI (gath (qaz m (onR ps t))))->Q (.ref e) H'
theorem ok_on (T:Txt2 mg)(F:FunAt K mg "_law_on" ["_law_net_here", "_law_found"] s_l_on):Cal P w K mg base "_law_on" ["_law_net_here", "_law_found"] 1 spOn:=by
 have S:=qij
 refine F.cal qij (fun vs H Q E h=>?_) (fun f cdv A outer s H vs Q E hr h=>?_)
 ·obtain ⟨v,d,n,ps,t,m,rfl,_⟩:=h; rfl
 obtain ⟨v,d,n,ps,t,m,rfl,⟨na,nb,xs,rfl,hna,hnb,prs⟩,few,p40,n6,hd,nd,hm,hk,kont⟩:=h
 have hu1:=qhA hr
 have xl:=prs.length
 refine ⟨_,(@pK _ _ _ _ _ (@pZ _ _ (2) _ _ _ _ (by exact S.nd) ⋯ ⋯ qei ⋯ ⋯) (@pK _ _ _ _ _ (@qlK _ _ _ (@qbd _ _ _ _ _ _ _ _ (by exact PassesOwn.never) ⋯ (@qj5 _ _ _ _ (pv 1)) (@pG _ _ (3) _ (by exact S.nd) ⋯ ⋯ ⋯) (@pO _ _ _ (@qbd _ _ _ _ _ _ _ _ (by exact PassesOwn.never) ⋯ (@qgE _ _ _ _ (@qaw _ _ _ _ _ _ _ qas (pv 0) pI (by exact (fun _ _=>rfl)))) (@qcT _ _ _ _ _ _ ⋯ (@qaf _ _ _ _ _ (@pG _ _ (4) _ (by exact S.nd) ⋯ ⋯ ⋯) (@qaf _ _ _ _ _ (@pG _ _ (5) _ (by exact S.nd) ⋯ ⋯ ⋯) qaX ⋯) ⋯) ⋯ ⋯) (@pK _ _ _ _ _ (@pZ _ _ (6) _ _ _ _ (by exact S.nd) ⋯ ⋯ (@qaG _ _ _ _ (@pC _ _ _ _ _ (pv 4) (@pC _ _ _ _ _ (pv 5) pN ⋯) ⋯)) ⋯ ⋯) (@pK _ _ _ _ _ (@qbj _ _ _ _ _ _ _ _ (@PW.pt _ _ _ (@qlG _ _ _ _ _ _ _ (@qal _ _ _ _ _ _ _ _ qho (@qaw _ _ _ _ _ _ _ qas (pv 3) (pv 4) (by exact (fun _ _=>rfl))) (@qaw _ _ _ _ _ _ _ qas (pv 3) (pv 5) (by exact (fun _ _=>rfl))) (by exact (qax _))) (@qkY _ _ _ _ (@PW.pt _ _ _ (@qim _ _ _ _ _ _ _ (@qal _ _ _ _ _ _ _ _ qfS (@qaw _ _ _ _ _ _ _ qas (pv 3) (pv 4) (by exact (fun _ _=>rfl))) (@qaw _ _ _ _ _ _ _ qas (pv 3) (pv 5) (by exact (fun _ _=>rfl))) (by exact (qax _))) (@qfK _ _ _ _ (@qal _ _ _ _ _ _ _ _ qfS (@qaw _ _ _ _ _ _ _ qas (pv 0) pI (by exact (fun _ _=>rfl))) qav (by exact (qax _))))))))) (@pO _ _ _ (@pZ _ _ (6) _ _ _ _ (by exact S.nd) ⋯ ⋯ (@qaG _ _ _ _ (@pC _ _ _ _ _ (pv 4) (@pC _ _ _ _ _ (pv 4) pN ⋯) ⋯)) ⋯ ⋯)) (@pO _ _ _ (@qbj _ _ _ _ _ _ _ _ (@qal _ _ _ _ _ _ _ _ qho (@qaw _ _ _ _ _ _ _ qas (pv 3) (pv 5) (by exact (fun _ _=>rfl))) (@qaw _ _ _ _ _ _ _ qas (pv 3) (pv 4) (by exact (fun _ _=>rfl))) (by exact (qax _))) (@pO _ _ _ (@pZ _ _ (6) _ _ _ _ (by exact S.nd) ⋯ ⋯ (@qaG _ _ _ _ (@pC _ _ _ _ _ (pv 5) (@pC _ _ _ _ _ (pv 5) pN ⋯) ⋯)) ⋯ ⋯)) qaA))) (@pO _ _ _ (@qbd _ _ _ _ _ _ _ _ (by exact PassesOwn.never) ⋯ (@qa5 _ _ _ _ (pv 6)) (@pG _ _ (7) _ (by exact S.nd) ⋯ ⋯ ⋯) (@pK _ _ _ _ _ (@pZ _ _ (8) _ _ _ _ (by exact S.nd) ⋯ ⋯ (@pP _ _ _ _ _ _ _ _ qeo (@pP _ _ _ _ _ _ _ _ qeo (@qbO _ _ _ _ _ _ _ _ _ _ qeb (pv 3) qcE (@qcD _ _ _ (pv 7))) (@qag _ _ _ _ _ (@pC _ _ _ _ _ (@pP _ _ _ _ _ _ _ _ qaP (@qaw _ _ _ _ _ _ _ qas (pv 3) (pv 7) (by exact (fun _ _=>rfl))) pI) pN ⋯))) (@qbO _ _ _ _ _ _ _ _ _ _ qeb (pv 3) (@qcD _ _ _ (@pP _ _ _ _ _ _ _ _ qaP (pv 7) pI)) qcE)) ⋯ ⋯) (@pO _ _ _ (@qdf _ _ _ _ _ _ _ _ _ (by exact hu1) (pv 2) (pv 8) (@pP _ _ _ _ _ _ _ _ qaP (@qgH _ _ _ _ _ _ _ _ _ (by exact hu1) (pv 2) (pv 8) pI (by exact ⟨rfl,rfl,rfl,rfl⟩)) (@qbr _ _ _ _ _ _ (by exact hu1) (pv 1) (pv 3) (by exact (fun _ _=>rfl)))) ⋯))) ⋯)))) ⋯)) ⋯)) (@pO _ _ _ (@qan _ _ _ _ (pv 2))))),?_⟩
 intro e he
 have hed:e≠d:=Ne.symm (qab hd he)
 have hd1:upd H e (.dT []) d=some (dI m):=by rw [uE (Ne.symm hed)]; exact hd
 refine ⟨d,_,hd1,_,rfl,d,_,rfl,.inl ⟨hd1,fun o=>qhC (qeE (kws:=m.map fI)) (fun i σ H'=>Same (upd H d (.frz o (dI m))) H'/\H' e=some (dI (gath (qaz (m.take i) (onR ps t))))/\∃ o3 o4 o5 o6 o7 o8,σ=[some (.ref na),some (.ref d),some (.ref e),o3,o4,o5,o6,o7,o8]) ?_ ?_ ?_ ?_⟩⟩
 ·refine ⟨fun b u eb=>?_,?_,_,_,_,_,_,_,rfl⟩
  ·by_cases z:b=d
   ·subst z; rw [uS] at eb ⊢; exact eb
   ·rw [uE z] at eb ⊢; rw [uE (qab eb he)]; exact eb
  ·rw [uE hed,uS]; rfl
 ·rintro i σ H' ⟨s',_⟩
  rw [qmw]
  exact s' _ _ uS
 ·rintro i x σ H1 H2 hi ⟨s1,hE,o3,o4,o5,o6,o7,o8,rfl⟩ ⟨rfl,b,kw,rfl,hb,hkw⟩
  rw [List.getElem?_map,Option.map_eq_some_iff] at hkw
  obtain ⟨p,hp,rfl⟩:=hkw
  have pm:p∈m:=List.mem_of_getElem? hp
  change H2 b=some (.tup (iv p.1)) at hb
  have hzd:=s1 _ _ (uS (H:=H) (a:=d) (o := .frz o (dI m)))
  have tz:∀ {b:Addr} {xs:List V},H b=some (.tup xs)->H2 b=some (.tup xs):=fun {b xs} e=>s1 _ _ (by rw [uE (qb2 e hd (by intro z; cases z))]; exact e)
  have be:b≠e:=qb2 hb hE (by intro z; cases z)
  have de:d≠e:=Ne.symm hed
  have pl:p.1.length=n:=hk _ (List.mem_map_of_mem pm)
  have te:∀ {b:Addr} {xs:List V},H2 b=some (.tup xs)->b≠e:=fun {b xs} h=>qb2 h hE (by intro z; cases z)
  refine gN_ ?_
  refine ⟨_,rfl,na,_,_,_,rfl,rfl,SqT.of (tz hna),rfl,nb,rfl,⟨_,SqT.of (tz hnb)⟩,qhC (qdG (xs:=xs)) (fun j σ H'=>SmB e H2 H'/\H' e=some (dI (gath (qaz (m.take i) (onR ps t) ++ (onR (ps.take j) t p.1).map fun q=>(q.1,p.2 * q.2))))/\∃ o4 o5 o6 o7 o8,σ=[some (.ref na),some (.ref d),some (.ref e),some (.ref b),o4,o5,o6,o7,o8]) ?_ ?_ ?_ ?_⟩
  ·refine ⟨.refl _ _,?_,_,_,_,_,_,rfl⟩
   rw [List.take_zero,show onR [] t p.1=[] from rfl,List.map_nil,List.append_nil]; exact hE
  ·rintro j σ H' ⟨s3,_⟩
   exact s3 _ _ (te (tz hnb)) (tz hnb)
  ·rintro j x σ X3 H3 hj ⟨s3,hE3,o4,o5,o6,o7,o8,rfl⟩ ⟨rfl,hx⟩
   obtain ⟨q,hq,c,rfl,hc⟩:=qah prs hx
   obtain ⟨q10,q11,q20,q21⟩:=few q (List.mem_of_getElem? hq)
   have lts:=go_lt (n:=n) (t:=t) (st:=p.1) (q:=q) (by omega) (by omega)
   obtain ⟨qa,qb⟩:=q
   dsimp only at q10 q11 q20 q21 hc
   obtain ⟨aa,rfl⟩:∃ aa:Nat,qa=aa:=⟨qa.toNat,by omega⟩
   obtain ⟨bb,rfl⟩:∃ bb:Nat,qb=bb:=⟨qb.toNat,by omega⟩
   have k3:∀ {b:Addr} {xs:List V},H2 b=some (.tup xs)->H3 b=some (.tup xs):=fun h=>s3 _ _ (te h) h
   have hb3:=k3 hb
   have la:aa < p.1.length:=by omega
   have lb:bb < p.1.length:=by omega
   refine ⟨c,_,rfl,SqT.of (k3 (tz hc)),rfl,_,_,rfl,_,_,rfl,rfl,?_⟩
   apply joinA (C:=fun (lg:Addr) (h:Hp)=>Same H3 h/\h lg=some (.lst [.int ((goF t p.1 ((aa:Int),(bb:Int))).1:Nat),.int ((goF t p.1 ((aa:Int),(bb:Int))).2:Nat)]))
   case main =>
    intro key
    have gd:goF t p.1 ((aa:Int),(bb:Int))=if p.1.getD aa 0 < p.1.getD bb 0\/(p.1.getD aa 0=p.1.getD bb 0/\t = "left") then (aa,aa) else if p.1.getD bb 0 < p.1.getD aa 0 then (bb,bb) else (aa,bb):=by unfold goF; simp only [Int.toNat_natCast]
    refine ⟨_,rfl,_,rfl,lz 2 rfl,fun l0 hl0=>?_⟩
    have s_A0:=sN hl0 (.lst [.int (aa:Int),.int (bb:Int)])
    have g_l0:upd H3 l0 (.lst [.int (aa:Int),.int (bb:Int)]) l0=some (.lst [.int (aa:Int),.int (bb:Int)]):=uS
    generalize upd H3 l0 (.lst [.int (aa:Int),.int (bb:Int)])=A0 at s_A0 g_l0 ⊢
    have hbA:=s_A0 _ _ hb3
    have hnA:=s_A0 _ _ (k3 (tz hna))
    have brA:∀ (lg:Addr) (h:Hp),h lg=some (.lst [.int (aa:Int),.int (aa:Int)])->(p.1.getD aa 0 < p.1.getD bb 0\/(p.1.getD aa 0=p.1.getD bb 0/\t = "left"))->h lg=some (.lst [.int ((goF t p.1 ((aa:Int),(bb:Int))).1:Nat),.int ((goF t p.1 ((aa:Int),(bb:Int))).2:Nat)]):=fun lg h e z=>by rw [gd,if_pos z]; exact e
    refine gN_ ?_
    refine ⟨_,rfl,_,rfl,b,_,_,_,rfl,rfl,SqT.of hbA,qaW la,_,rfl,_,rfl,b,_,_,_,rfl,rfl,SqT.of hbA,qaW lb,_,_,rfl,rfl,_,rfl,?_⟩
    refine ite2 (fun c1=>iteT ?_) (fun c1=>?_)
    ·have c1':p.1.getD aa 0 < p.1.getD bb 0:=of_decide_eq_true c1
     refine ⟨_,rfl,_,rfl,lz 2 rfl,fun l1 hl1=>?_⟩
     refine gN_ ?_
     simp only [List.set_cons_succ,List.set_cons_zero]
     refine key l1 _ ⟨s_A0.trans (sN hl1 _),brA _ _ uS (.inl c1')⟩
    have c1':¬ p.1.getD aa 0 < p.1.getD bb 0:=fun z=>c1 (decide_eq_true z)
    refine ⟨_,rfl,_,rfl,b,_,_,_,rfl,rfl,SqT.of hbA,qaW la,_,rfl,_,rfl,b,_,_,_,rfl,rfl,SqT.of hbA,qaW lb,rfl,_,rfl,?_⟩
    refine ite2 (fun c2=>?_) (fun c2=>iteF ?_)
    ·have c2':p.1.getD aa 0=p.1.getD bb 0:=tst c2
     refine ⟨_,rfl,na,_,_,_,rfl,rfl,SqT.of hnA,rfl,rfl,_,rfl,?_⟩
     refine ite2 (fun c3=>?_) (fun c3=>?_)
     ·have c3':t = "left" := V.str.inj (of_decide_eq_true c3)
      refine ⟨_,rfl,_,rfl,lz 2 rfl,fun l1 hl1=>?_⟩
      refine gN_ ?_
      simp only [List.set_cons_succ,List.set_cons_zero]
      refine key l1 _ ⟨s_A0.trans (sN hl1 _),brA _ _ uS (.inr ⟨c2',c3'⟩)⟩
     ·have c3':t ≠ "left" := fun z=>c3 (by rw [z]; simp)
      refine ⟨_,rfl,_,rfl,b,_,_,_,rfl,rfl,SqT.of hbA,qaW lb,_,rfl,_,rfl,b,_,_,_,rfl,rfl,SqT.of hbA,qaW la,_,_,rfl,rfl,_,rfl,?_⟩
      refine ite2 (fun c4=>?_) (fun c4=>?_)
      ·exfalso
       have:p.1.getD bb 0 < p.1.getD aa 0:=of_decide_eq_true c4
       omega
      ·simp only [List.set_cons_succ,List.set_cons_zero]
       refine key l0 _ ⟨s_A0,?_⟩
       rw [gd,if_neg (fun z=>z.elim c1' fun z=>c3' z.2),if_neg (fun z=>c4 (decide_eq_true z))]; exact g_l0
    ·have c2':p.1.getD aa 0≠p.1.getD bb 0:=tstN c2
     refine ⟨_,rfl,_,rfl,b,_,_,_,rfl,rfl,SqT.of hbA,qaW lb,_,rfl,_,rfl,b,_,_,_,rfl,rfl,SqT.of hbA,qaW la,_,_,rfl,rfl,_,rfl,?_⟩
     refine ite2 (fun c4=>?_) (fun c4=>?_)
     ·have c4':p.1.getD bb 0 < p.1.getD aa 0:=of_decide_eq_true c4
      refine ⟨_,rfl,_,rfl,lz 2 rfl,fun l1 hl1=>?_⟩
      refine gN_ ?_
      simp only [List.set_cons_succ,List.set_cons_zero]
      refine key l1 _ ⟨s_A0.trans (sN hl1 _),?_⟩
      rw [gd,if_neg (fun z=>z.elim c1' fun z=>c2' z.1),if_pos c4']; exact uS
     ·exfalso
      have:¬ p.1.getD bb 0 < p.1.getD aa 0:=fun z=>c4 (decide_eq_true z)
      omega
   rintro lg h ⟨sh,hlg⟩
   obtain ⟨go,hgo⟩:∃ go,goF t p.1 ((aa:Int),(bb:Int))=go:=⟨_,rfl⟩
   rw [hgo] at hlg lts
   have hEh:=sh _ _ hE3
   have hbh:=sh _ _ hb3
   have hdh:=sh _ _ (s3 _ _ de hzd)
   have lge:lg≠e:=qb2 hlg hEh (by intro z; cases z)
   have eqQ:onQ t p.1 ((aa:Int),(bb:Int))=[(putS p.1 go.1,1),(putS p.1 go.2,1)]:=by unfold onQ; rw [hgo]
   refine ⟨_,rfl,lg,rfl,⟨_,SqL.of hlg⟩,qhC (qaF (xs:=[V.int (go.1:Nat),V.int (go.2:Nat)])) (fun u σ H'=>SmB e h H'/\H' e=some (dI (gath (qaz (m.take i) (onR ps t) ++ (onR (ps.take j) t p.1).map (fun q=>(q.1,p.2 * q.2)) ++ ((onQ t p.1 ((aa:Int),(bb:Int))).take u).map fun q=>(q.1,p.2 * q.2))))/\∃ o7 o8,σ=[some (.ref na),some (.ref d),some (.ref e),some (.ref b),some (.int (aa:Int)),some (.int (bb:Int)),some (.ref lg),o7,o8]) ?_ ?_ ?_ ?_⟩
   ·refine ⟨.refl _ _,?_,_,_,rfl⟩
    rw [List.take_zero,List.map_nil,List.append_nil]; exact hEh
   ·rintro u σ H' ⟨s4,_⟩
    exact s4 _ _ lge hlg
   ·rintro u x σ X5 H5 hu ⟨s5,hE5,o7,o8,rfl⟩ ⟨rfl,hx⟩
    obtain ⟨g,gl,hgx,hgq⟩:∃ g:Nat,g < n/\x = .int (g:Int)/\(onQ t p.1 ((aa:Int),(bb:Int)))[u]?=some (putS p.1 g,1):=by
     rw [eqQ]
     have:u=0\/u=1:=by have:u < 2:=hu; omega
     rcases this with rfl | rfl
     ·exact ⟨go.1,lts.1,(Option.some.inj hx).symm,rfl⟩
     ·exact ⟨go.2,lts.2,(Option.some.inj hx).symm,rfl⟩
    subst hgx
    have hb5:=s5 _ _ be hbh
    have hd5:=s5 _ _ de hdh
    refine gN_ ?_
    refine ⟨_,rfl,_,rfl,_,rfl,b,_,rfl,hb5,fun c3 H6 s6 hc3=>?_⟩
    rw [qlh (by omega)] at hc3
    refine ⟨_,rfl,_,rfl,b,_,_,_,rfl,rfl,SqT.of (s6 _ _ hb5),qaW (by omega),_,_,rfl,rfl,lz 1 rfl,fun t4 ht4=>?_⟩
    have s_H7:=sN ht4 (.tup [.int (p.1.getD g 0 + 1)])
    have g_t4:upd H6 t4 (.tup [.int (p.1.getD g 0 + 1)]) t4=some (.tup [.int (p.1.getD g 0 + 1)]):=uS
    generalize upd H6 t4 (.tup [.int (p.1.getD g 0 + 1)])=H7 at s_H7 g_t4 ⊢
    refine ⟨c3,t4,_,_,rfl,rfl,s_H7 _ _ hc3,g_t4,by simp; omega,fun c5 H8 s8 hc5=>?_⟩
    have s68:=s6.trans (s_H7.trans s8)
    refine ⟨_,rfl,_,rfl,_,_,rfl,rfl,_,rfl,b,_,rfl,s68 _ _ hb5,fun c6 H9 s9 hc6=>?_⟩
    have e6:cutV (iv p.1) (some ((g:Int) + 1)) none=iv (p.1.drop (g + 1)):=by
     have:=qli (ns:=p.1) (k:=g + 1) (by omega)
     rw [show (((g + 1:Nat)):Int)=(g:Int) + 1 by omega] at this
     exact this
    change H9 c6=some (.tup (cutV (iv p.1) (some ((g:Int) + 1)) none)) at hc6
    rw [e6] at hc6
    refine ⟨c5,c6,_,_,rfl,rfl,s9 _ _ hc5,hc6,by simp; omega,fun c7 Ha sa hc7=>?_⟩
    have e7:iv (p.1.take g) ++ [V.int (p.1.getD g 0 + 1)] ++ iv (p.1.drop (g + 1))=iv (putS p.1 g):=by
     rw [<- qin (by omega)]; simp
    rw [e7] at hc7
    have s6a:=s68.trans (s9.trans sa)
    have hEa:=s6a _ _ hE5
    refine gN_ ⟨_,rfl,e,rfl,.inr ⟨_,.inl hEa⟩,_,rfl,_,DGet.t hEa (qcV hc7),?_⟩
    rw [qeI]
    have gg:=DGet.tz (qmX (s6a _ _ hd5)) (qcV (s6a _ _ hb5))
    rw [qeH (List.mem_map_of_mem pm),qbf nd pm] at gg
    refine ⟨_,rfl,_,rfl,d,_,rfl,gg,_,_,rfl,rfl,?_⟩
    refine ⟨_,rfl,_,rfl,e,_,rfl,DPut.t hEa (qcV hc7) ?_,?_⟩
    ·have h1:=qc3 (qaz (m.take i) (onR ps t) ++ (onR (ps.take j) t p.1).map (fun q=>(q.1,p.2 * q.2)) ++ ((onQ t p.1 ((aa:Int),(bb:Int))).take u).map fun q=>(q.1,p.2 * q.2))
     have h2:=qci (m.take i) (onR ps t) 80 fun l=>by rw [qk4]; omega
     have h3:=qk4 (ps.take j) t p.1
     rw [List.length_append,List.length_append,List.length_map,List.length_map,h3,List.length_take,List.length_take] at h1
     rw [List.length_take] at h2
     have h4:min i m.length * 80≤501 * 80:=Nat.mul_le_mul_right _ (by omega)
     have h5:(onQ t p.1 ((aa:Int),(bb:Int))).length=2:=rfl
     rw [List.length_map,sizeLine_eq]; omega
    ·refine ⟨(s5.trans (.of s6a)).upd _,?_,_,_,rfl⟩
     rw [qfL,uS,take_snoc hgq,List.map_append,<- List.append_assoc,List.map_cons,List.map_nil,qct,Int.mul_one]
     rfl
   ·rintro σ H5 ⟨s5,hE5,o7,o8,rfl⟩
    refine ⟨s3.trans ((SmB.of sh).trans s5),?_,_,_,_,_,_,rfl⟩
    rw [qlV hq,List.map_append,<- List.append_assoc]
    have:(onQ t p.1 ((aa:Int),(bb:Int))).take [V.int (go.1:Nat),V.int (go.2:Nat)].length=onQ t p.1 ((aa:Int),(bb:Int)):=List.take_of_length_le (Nat.le_refl 2)
    rw [this] at hE5
    exact hE5
  ·rintro σ H3 ⟨s3,hE3,o4,o5,o6,o7,o8,rfl⟩
   refine ⟨fun b u eb=>s3 b u (fun z=>?_) (s1 _ _ eb),?_,_,_,_,_,_,_,rfl⟩
   ·rw [z,uE hed,he] at eb; cases eb
   ·rw [qde hp]
    rw [xl,List.take_length] at hE3; exact hE3
 ·rintro σ H1 ⟨s1,hE,o3,o4,o5,o6,o7,o8,rfl⟩
  have hml:(m.map fI).length=m.length:=by simp
  rw [hml,List.take_length] at hE
  refine ⟨o,_,s1 _ _ uS,?_⟩
  refine ⟨_,rfl,kont e _ (fun b u eb=>?_) he (by rw [uE hed]; exact hE)⟩
  by_cases z:b=d
  ·rw [z,uS]; rw [z,hd] at eb; exact eb
  ·rw [uE z]; exact s1 _ _ (by rw [uE z]; exact eb)
end
def srt (m:Mp):Mp:=(rise (qac m)).map fun k=>(k,getM m k)
theorem qlx (m:Mp):(srt m).length=m.length:=by unfold srt; rw [List.length_map,(qaS _).length_eq]; simp [qac]
theorem qlw (m:Mp)(W:Int):sprF m W=(srt m).map fun p=>(p.1,Rat.divInt p.2 W):=by unfold sprF srt; rw [List.map_map]; rfl
theorem qlv {m:Mp}(nd:(qac m).Nodup)(f:List Int->Int):tot (srt m) f=tot m f:=by
 rw [qjO nd]
 unfold tot srt
 rw [List.map_map]
 exact qjS ((qaS _).map _)
structure FitP (n:Nat)(ps:List (Int × Int))(t:Str)(m:Mp)(W:Int):Prop where
 n1:1≤n
 n6:n≤6
 few:Few n ps
 p1:1≤ps.length
 p40:ps.length≤40
 nd:(qac m).Nodup
 sm:m.length≤501
 pos:∀ p∈m,0 < p.2
 W0:0 < W
 W1:W≤1000
 vle:∀ p∈m,p.2≤W
 vs:(qap m).sum=W
theorem FitP.mem {n:Nat}{ps:List (Int × Int)}{t:Str}{m:Mp}{W:Int}(F:FitP n ps t m W):∀ p∈srt m,p.1∈qac m/\0 < p.2/\p.2≤W:=fun p hp=>by
 unfold srt at hp
 obtain ⟨k,hk,rfl⟩:=List.mem_map.mp hp
 have hk':=(qaS _).mem_iff.mp hk
 obtain ⟨q,hq,rfl⟩:=List.mem_map.mp hk'
 refine ⟨hk',?_,?_⟩
 ·show 0 < getM m q.1; rw [qbf F.nd hq]; exact F.pos q hq
 ·show getM m q.1≤W; rw [qbf F.nd hq]; exact F.vle q hq
theorem b10 {x:Int}(h0:0≤x)(h1:x≤1000):Bt 10 x:=Bt.of_lt (show x.natAbs < 2 ^ 10 by have:(2:Nat) ^ 10=1024:=rfl; omega)
theorem bt20 {x:Int}(h0:0≤x)(h1:x≤80000):Bt 2000 x:=(Bt.of_lt (n:=20) (show x.natAbs < 2 ^ 20 by have:(2:Nat) ^ 20=1048576:=rfl; omega)).mono (by decide)
theorem sb_a {x y:Int}(h0:0≤x)(h1:x≤1000)(h2:0 < y)(h3:y≤1000):SB 3000 (Rat.divInt x y):=(SB.divInt (b10 h0 h1) (b10 (Int.le_of_lt h2) h3) h2).mono (by decide)
theorem qfB (m:Mp):tot m (fun _=>1)=(qap m).sum:=by unfold tot qap; congr 1; exact List.map_congr_left fun p _=>by show p.2 * 1=p.2; omega
theorem qln {n:Nat}{ps:List (Int × Int)}{t:Str}{m:Mp}{W:Int}(fit:FitP n ps t m W):(qap (qaz (srt m) (nxF n ps t))).sum=W * (2 * (ps.length:Int)):=by
 have nv:∀ s:List Int,(qap (nxF n ps t s)).sum=2 * (ps.length:Int):=fun s=>by
  have h1:=qdJ ps t s (fun _=>1) n
  rw [<- qfB,h1,<- qjx (t:=t) (st:=s) fit.few]
  congr 1
  exact List.map_congr_left fun i _=>by show bwF ps t s i * 1=_; omega
 rw [qhS,qhZ (c:=2 * (ps.length:Int)) fun k _=>nv k]
 congr 1
 have h1:=qlv fit.nd (fun _=>1)
 rw [qfB,qfB] at h1
 rw [h1]; exact fit.vs
section
variable {P:Program}{w:World}{K:PySem.W.Frag}{mg:Str->Option Value}{base:Heap}
def qd8 (er:Errs):Sp:=fun vs H Q E=>∃ (v:V) (l:Addr) (n b:Nat) (ps:List (Int × Int)) (t:Str) (m:Mp) (W:Int),vs=[v,.ref l]/\qbc H v n ps t/\SpAt H l (sprF m W)/\m≠[]/\(∀ k∈qac m,k.length=b) /\
 (b≠n->E (.ref er.c2) none H)/\(b=n->FitP n ps t m W/\(500 < (gath (qaz (srt m) (nxF n ps t))).length->∀ H',Same H H'->E (.ref er.c4) none H') /\
  ((gath (qaz (srt m) (nxF n ps t))).length≤500->∀ (l':Addr) (H':Hp),Same H H'->Q (.ref l') H'))
theorem qkf {er:Errs}(T:Txt2 mg)(C_ask_boxes_of:Cal1 P w K mg base "ask_boxes_of" ["net", "stand"] 1 (qd9 er.c2))(C_ask_few:Cal1 P w K mg base "ask_few" ["stands"] 1 (qib er.c4))(C_next_stands:Cal P w K mg base "next_stands" ["net", "stand"] 2 qia)(C_all_weights:Cal P w K mg base "all_weights" ["net"] 1 qic)(C_times:Cal P w K mg base "times" ["a", "b"] 3 qh8)(C_share:Cal P w K mg base "share" ["top", "bottom"] 2 qh9)(C_summed:Cal P w K mg base "summed" ["rows"] 4 qgj)
  (F:FunAt K mg "put_on" ["net", "spread"] s_put_on):Cal1 P w K mg base "put_on" ["net", "spread"] 5 (qd8 er):=by
 have S:=qeT
 refine F.cal1 qeT (fun vs H Q E h=>?_) (fun f cdv A outer s H vs Q E hr h=>?_)
 ·obtain ⟨v,l,n,b,ps,t,m,W,rfl,_⟩:=h; rfl
 obtain ⟨v,l,n,b,ps,t,m,W,rfl,net,⟨xs,hl,rws⟩,ne,ln,hU,kk⟩:=h
 refine ⟨_,(@pK _ _ _ _ _ (@qbZ _ _ _ _ (@cc1 _ _ _ _ _ _ _ _ _ _ _ (by exact qel) (by exact C_ask_boxes_of) (by exact (hr.mono (by decide))) (@pC _ _ _ _ _ (pv 0) (@pC _ _ _ _ _ (@qaw _ _ _ _ _ _ _ qas (@qaw _ _ _ _ _ _ _ qaQ (pv 1) pI (by exact (fun _ _=>rfl))) pI (by exact (fun _ _=>rfl))) pN ⋯) ⋯) ⋯ ⋯ ⋯ ⋯) ⋯) (@pK _ _ _ _ _ (@PS.nox _ _ _ (@pZ _ _ (2) _ _ _ _ (by exact S.nd) ⋯ ⋯ (@cc _ _ _ _ _ _ _ _ _ _ (by exact C_all_weights) (by exact (hr.mono (by decide))) (@pC _ _ _ _ _ (pv 0) pN ⋯) ⋯ ⋯ ⋯ ⋯) ⋯ ⋯)) (@pK _ _ _ _ _ (@PS.nox _ _ _ (@pZ _ _ (3) _ _ _ _ (by exact S.nd) ⋯ ⋯ (@cc _ _ _ _ _ _ _ _ _ _ (by exact C_summed) (by exact (hr.mono (by decide))) (@pC _ _ _ _ _ (@qgI _ _ _ _ _ _ _ _ _ _ _ _ _ _ _ _ _ _ _ ⋯ (by exact (fun _ _ h=>h)) (by decide +kernel) ⋯ (by decide +kernel) (by exact qbH rfl) (by exact Sees.frees ["stand", "part", "later", "weight"] [("net",0),("bottom",2)] (qaI ⟨rfl,rfl⟩ (qaI ⟨rfl,rfl⟩ qbJ))) (@qa5 _ _ _ _ (pv 1)) (fun _ _ _ _ _=>(@qb0 _ _ _ _ _ (2) ⋯ (@qaf _ _ _ _ _ (@pG _ _ (0) _ (by exact (show (["stand", "part", "later", "weight", "net", "bottom"]:List Str).Nodup by decide +kernel)) ⋯ ⋯ ⋯) (@qaf _ _ _ _ _ (@pG _ _ (1) _ (by exact (show (["stand", "part", "later", "weight", "net", "bottom"]:List Str).Nodup by decide +kernel)) ⋯ ⋯ ⋯) qaX ⋯) ⋯) ⋯ ⋯)) (fun _ _ _ _ _=>qbi) (fun _ _ _ _ _=>(@qeZ _ _ _ _ K ⋯ (@cc _ _ _ _ _ _ _ _ _ _ (by exact C_next_stands) (by exact (hr.mono (by decide))) (@pC _ _ _ _ _ (pv 4) (@pC _ _ _ _ _ (pv 0) pN ⋯) ⋯) ⋯ ⋯ ⋯ ⋯))) (fun _ _ _ _ _=>(@qb0 _ _ _ _ _ (2) ⋯ (@qaf _ _ _ _ _ (@pG _ _ (2) _ (by exact (show (["stand", "part", "later", "weight", "net", "bottom"]:List Str).Nodup by decide +kernel)) ⋯ ⋯ ⋯) (@qaf _ _ _ _ _ (@pG _ _ (3) _ (by exact (show (["stand", "part", "later", "weight", "net", "bottom"]:List Str).Nodup by decide +kernel)) ⋯ ⋯ ⋯) qaX ⋯) ⋯) ⋯ ⋯)) (fun _ _ _ _ _=>qbi) (fun _ _ _ _ _=>(@qag _ _ _ _ _ (@pC _ _ _ _ _ (pv 2) (@pC _ _ _ _ _ (@cc _ _ _ _ _ _ _ _ _ _ (by exact C_times) (by exact (hr.mono (by decide))) (@pC _ _ _ _ _ (pv 1) (@pC _ _ _ _ _ (@cc _ _ _ _ _ _ _ _ _ _ (by exact C_share) (by exact (hr.mono (by decide))) (@pC _ _ _ _ _ (pv 3) (@pC _ _ _ _ _ (pv 5) pN ⋯) ⋯) ⋯ ⋯ ⋯ ⋯) pN ⋯) ⋯) ⋯ ⋯ ⋯ ⋯) pN ⋯) ⋯))) ⋯ ⋯) pN ⋯) ⋯ ⋯ ⋯ ⋯) ⋯ ⋯)) (@pK _ _ _ _ _ (@qbZ _ _ _ _ (@cc1 _ _ _ _ _ _ _ _ _ _ _ (by exact qel) (by exact C_ask_few) (by exact (hr.mono (by decide))) (@pC _ _ _ _ _ (pv 3) pN ⋯) ⋯ ⋯ ⋯ ⋯) ⋯) (@pO _ _ _ (@PS.nox _ _ _ (@qan _ _ _ _ (pv 3)))))))),?_⟩
 rw [qlw] at rws
 have xl:=Paired.length rws
 rw [List.length_map] at xl
 have sl:=qlx m
 obtain ⟨x0,hx0⟩:∃ x0,xs[0]?=some x0:=by
  have:0 < xs.length:=by
   have:m.length≠0:=fun z=>ne (List.length_eq_zero_iff.mp z)
   omega
  exact ⟨_,List.getElem?_eq_getElem this⟩
 obtain ⟨r0,hr0,a0,b0,v0,rfl,ha0,hb0,hv0⟩:=qah rws hx0
 rw [List.getElem?_map,Option.map_eq_some_iff] at hr0
 obtain ⟨e0,he0,rfl⟩:=hr0
 have ln0:e0.1.length=b:=by
  have hm0:=List.mem_of_getElem? he0
  unfold srt at hm0
  obtain ⟨k0,hk0,e00⟩:=List.mem_map.mp hm0
  rw [<- e00]
  exact ln k0 ((qaS _).mem_iff.mp hk0)
 refine ⟨_,rfl,_,rfl,l,_,_,_,rfl,rfl,SqL.of hl,qdA hx0,a0,_,_,_,rfl,rfl,SqT.of ha0,rfl,v,b0,n,ps,t,e0.1,rfl,net,hb0,fun z=>hU fun e=>z (by rw [ln0]; exact e),fun sl0=>?_⟩
 have ebn:b=n:=by rw [<- sl0,ln0]
 obtain ⟨fit,hT,k⟩:=kk ebn
 rw [ebn] at ln
 have n6:=fit.n6
 refine ⟨_,rfl,v,n,ps,t,rfl,net,?_⟩
 refine gN_ ?_
 have B1:0 < 2 * (ps.length:Int):=by have:=fit.p1; omega
 have B2:2 * (ps.length:Int)≤80:=by have:=fit.p40; omega
 have fewx:xs.length≤501:=by have:=fit.sm; omega
 let QF:List Int × Int->List Int × Rat:=fun p=>(p.1,Rat.divInt p.2 (W * (2 * (ps.length:Int))))
 refine ⟨_,rfl,l,rfl,⟨_,SqL.of hl⟩,?_⟩
 intro p hp
 have hlp:l≠p:=qab hl hp
 refine qes (qaF (xs:=xs)) (fun i σ' H'=>SmB p H H'/\(∃ o1 o2 o3 o4,σ'=[o1,o2,o3,o4,some v,some (.int (2 * (ps.length:Int)))])/\∃ ys,H' p=some (.lst ys)/\Paired (RwAt H') ys ((qaz ((srt m).take i) (nxF n ps t)).map fun p=>(p.1,Rat.divInt p.2 (W * (2 * (ps.length:Int)))))) ?_ ?_ ?_ ?_
 ·exact ⟨.of (sN hp _),⟨_,_,_,_,rfl⟩,[],uS,.nil⟩
 ·rintro i σ' H' ⟨s',_⟩
  exact s' _ _ hlp hl
 ·rintro i x σ' X1 H1 hi ⟨s1,⟨o1,o2,o3,o4,rfl⟩,ys,hy,ry⟩ ⟨rfl,hx⟩ R hR
  obtain ⟨r,hri,a1,b1,v1,rfl,ha1,hb1,hv1⟩:=qah rws hx
  rw [List.getElem?_map,Option.map_eq_some_iff] at hri
  obtain ⟨e,he,rfl⟩:=hri
  have em:=List.mem_of_getElem? he
  obtain ⟨ek,e0',e1'⟩:=fit.mem e em
  dsimp only at hb1 hv1
  have tp:∀ {b:Addr} {zs:List V},H b=some (.tup zs)->H1 b=some (.tup zs):=fun h=>s1 _ _ (qab h hp) h
  refine ⟨a1,_,rfl,tp ha1,rfl,_,_,rfl,_,_,rfl,rfl,?_⟩
  refine tT_ (iteT ?_)
  have netH:qbc H1 v n ps t:=by
   obtain ⟨na,nb,zs,e,h1,h2,h3⟩:=net
   exact ⟨na,nb,zs,e,tp h1,tp h2,Paired.mapP h3 fun _ _ ⟨c,e,h⟩=>⟨c,e,tp h⟩⟩
  have hv1':ShAt H1 v1 (Rat.divInt e.2 W):=let ⟨c,ec,hc⟩:=hv1; ⟨c,ec,tp hc⟩
  refine ⟨_,rfl,_,rfl,v,b1,n,ps,t,e.1,rfl,netH,tp hb1,ln _ ek,n6,fit.n1,fit.few,fit.p40,fun l3 zs3 H3 s3 hn3 hl3 rz3=>?_⟩
  have hy3:=s3 _ _ hy
  have l3p:l3≠p:=by
   intro z
   rw [z,hy] at hn3; cases hn3
  refine ⟨l3,rfl,⟨_,SqL.of hl3⟩,qes (qaF (xs:=zs3)) (fun j σ' H'=>SmB p H3 H'/\(∃ o3 o4,σ'=[some (.ref b1),some v1,o3,o4,some v,some (.int (2 * (ps.length:Int)))])/\∃ zs,H' p=some (.lst zs)/\Paired (RwAt H') zs ((qaz ((srt m).take i) (nxF n ps t) ++ ((nxF n ps t e.1).take j).map fun q=>(q.1,e.2 * q.2)).map fun p=>(p.1,Rat.divInt p.2 (W * (2 * (ps.length:Int)))))) ?_ ?_ ?_ ?_⟩
  ·refine ⟨.refl _ _,⟨_,_,rfl⟩,ys,hy3,?_⟩
   rw [List.take_zero,List.map_nil,List.append_nil]
   exact Paired.mapP ry fun _ _ z=>z.imp fun b xs e=>s3 _ _ e
  ·rintro j σ' H' ⟨s4,_⟩
   exact s4 _ _ l3p hl3
  ·rintro j x σ' X4 H4 hj ⟨s4,⟨o3,o4,rfl⟩,zs,hzs,rz⟩ ⟨rfl,hx⟩ R2 hR2
   obtain ⟨g,hg,a5,b5,rfl,ha5,hb5⟩:=qah rz3 hx
   have ha6:=s4.tup hy3 _ _ ha5
   have hb6:=s4.tup hy3 _ _ hb5
   refine ⟨a5,_,rfl,ha6,rfl,_,_,rfl,_,_,rfl,rfl,?_⟩
   refine tT_ (iteT ?_)
   obtain ⟨ii,hii,eg,gp⟩:=qdk (List.mem_of_getElem? hg)
   have g2:0 < g.2/\g.2≤80:=by
    have h1:=qjz ps t e.1 ii
    rw [eg]
    exact ⟨gp,by show bwF ps t e.1 ii≤80; omega⟩
   have W1:=fit.W1
   have W0:=fit.W0
   have sb1:SB 3000 (Rat.divInt e.2 W):=sb_a (by omega) (by omega) W0 W1
   have sb2:SB 3000 (Rat.divInt g.2 (2 * (ps.length:Int))):=sb_a (Int.le_of_lt g2.1) (Int.le_trans g2.2 (by decide)) B1 (Int.le_trans B2 (by decide))
   have hv4:ShAt H4 v1 (Rat.divInt e.2 W):=let ⟨c,ec,hc⟩:=hv1'; ⟨c,ec,s4.tup hy3 _ _ (s3 _ _ hc)⟩
   refine ⟨_,rfl,_,rfl,_,rfl,_,rfl,g.2,2 * (ps.length:Int),rfl,by omega,(b10 (Int.le_of_lt B1) (Int.le_trans B2 (by decide))).mono (by decide),fun v7 H7 s7 hv7=>?_⟩
   refine ⟨_,_,_,_,rfl,hv4.same s7,hv7,sb1,sb2,trivial,fun v8 H8 s8 hv8=>?_⟩
   dsimp only at hv8
   rw [Rat.divInt_mul_divInt] at hv8
   refine ⟨lz 2 rfl,fun t' ht'=>?_⟩
   have s9:=sN ht' (.tup [.ref b5,v8])
   have s79:=s7.trans (s8.trans s9)
   have hp9:=s79 _ _ hzs
   refine ⟨zs,?_,hp9,hR2 _ _ ⟨(s4.trans (.of s79)).upd _,⟨_,_,rfl⟩,_,uS,?_⟩⟩
   ·have h1:=Paired.length rz
    have h2:=qci ((srt m).take i) (nxF n ps t) n fun l=>qdl ps t l n
    have h3:=qdl ps t e.1 n
    rw [List.length_map,List.length_append,List.length_map,List.length_take] at h1
    rw [List.length_take] at h2
    have h4:min i (srt m).length * n≤501 * 6:=Nat.mul_le_mul (by have:=fit.sm; omega) n6
    rw [h1,sizeLine_eq]; omega
   ·rw [take_snoc hg,List.map_append (l₁:=List.take j (nxF n ps t e.1)),<- List.append_assoc,List.map_append]
    exact qaC (Paired.mapP rz fun _ _ z=>z.imp fun b xs e=>tupL hp9 _ _ (s79 _ _ e)) ⟨t',b5,v8,rfl,tupL hp9 _ _ uS,tupL hp9 _ _ (s79 _ _ hb6),let ⟨c,ec,hc⟩:=hv8; ⟨c,ec,tupL hp9 _ _ (s9 _ _ hc)⟩⟩
  ·rintro σ' H4 ⟨s4,⟨o3,o4,rfl⟩,zs,hzs,rz⟩
   refine hR _ _ ⟨fun b u nb eb=>s4 b u nb (s3 _ _ (s1 _ _ nb eb)),⟨_,_,_,_,rfl⟩,zs,hzs,?_⟩
   rw [qde he]
   have:=Paired.length rz3
   rw [this,List.take_length] at rz
   exact rz
 ·rintro σ' H1 ⟨s1,⟨o1,o2,o3,o4,rfl⟩,ys,hy,ry⟩
  rw [xl,List.take_length] at ry
  have sH:Same H H1:=fun b u eb=>s1 _ _ (qab eb hp) eb
  have rpos:∀ q∈qaz (srt m) (nxF n ps t),0≤q.2:=fun q hq=>by
   obtain ⟨r,hr,hq'⟩:=List.mem_flatMap.mp hq
   obtain ⟨u,hu,rfl⟩:=List.mem_map.mp hq'
   obtain ⟨i,_,rfl,gp⟩:=qdk hu
   exact Int.mul_nonneg (Int.le_of_lt (fit.mem r hr).2.1) (Int.le_of_lt gp)
  have hlen:(qaz (srt m) (nxF n ps t)).length≤3006:=by
   have h2:=qci (srt m) (nxF n ps t) n fun l=>qdl ps t l n
   have h4:(srt m).length * n≤501 * 6:=Nat.mul_le_mul (by have:=fit.sm; omega) n6
   omega
  have W0:=fit.W0
  have W1:=fit.W1
  have WB0:0 < W * (2 * (ps.length:Int)):=Int.mul_pos W0 B1
  have WB1:W * (2 * (ps.length:Int))≤1000 * 80:=Int.mul_le_mul W1 B2 (by omega) (by decide)
  have vsum:=qln (t:=t) fit
  refine ⟨p,ys,qaz (srt m) (nxF n ps t),W * (2 * (ps.length:Int)),rfl,hy,ry,WB0,bt20 (Int.le_of_lt WB0) WB1,rpos,by rw [vsum]; exact bt20 (Int.le_of_lt WB0) WB1,by omega,fun l' H2 s2 hn2 sp2=>?_⟩
  obtain ⟨zs,hz,rz⟩:=id sp2
  have zl:=Paired.length rz
  have ez:zs.length=(gath (qaz (srt m) (nxF n ps t))).length:=by
   rw [zl]
   unfold sprF; rw [List.length_map,(qaS _).length_eq]; simp [qac]
  refine gN_ ⟨_,rfl,l',zs,rfl,hz,fun gt=>hT (by omega) _ (sH.trans s2),fun le=>?_⟩
  exact ⟨_,rfl,k (by omega) l' H2 (sH.trans s2)⟩
end
def oneM (ks:List (List Int)):Mp:=ks.map fun k=>(k,(1:Int))
theorem qgd (ks:List (List Int)):(qap (oneM ks)).sum=(ks.length:Int):=by
 induction ks with
 | nil=>rfl
 | cons k ks ih =>
  show ((1:Int) :: qap (oneM ks)).sum=_
  rw [List.sum_cons,ih,List.length_cons]; omega
theorem qaO (ks:List (List Int)):qac (oneM ks)=ks:=by
 induction ks with
 | nil=>rfl
 | cons k ks ih =>
  show k :: qac (oneM ks)=_
  rw [ih]
theorem qmm {ks:List (List Int)}(nd:ks.Nodup){k:List Int}(h:k∈ks):getM (oneM ks) k=1:=qbf (m:=oneM ks) (p:=(k,1)) (by rw [qaO]; exact nd) (List.mem_map.mpr ⟨k,h,rfl⟩)
theorem qlH {m:Mp}{k:List Int}{v:Int}(h:k ∉ qac m):putM m k v=m ++ [(k,v)]:=by
 unfold putM; rw [if_neg fun z=>h (qbQ.mp z)]
theorem qcI:∀ (n:Nat) (x:Mp),x.length=n->(qac x).Nodup->qbn [] (x.map kII)=x.map kII
 | 0,x,h,_=>by
  have:x=[]:=List.length_eq_zero_iff.mp h
  subst this; rfl
 | n + 1,x,h,nd=>by
  rcases List.eq_nil_or_concat x with e | ⟨y,p,e⟩
  ·subst e; simp at h
  ·rw [List.concat_eq_append] at e
   subst e
   have nd':(qac y).Nodup/\p.1 ∉ qac y:=by
    unfold qac at nd ⊢
    rw [List.map_append,List.nodup_append] at nd
    exact ⟨nd.1,fun z=>nd.2.2 _ z p.1 (by simp) rfl⟩
   have ih:=qcI n y (by simpa using h) nd'.1
   rw [List.map_append]
   show qbn [] (y.map kII ++ [kII p])=_
   rw [qb3,ih]
   show putK (y.map kII) (p.1.map Sum.inl) (.int p.2)=_
   rw [qfL,qlH nd'.2,List.map_append]
def bhS (ps:List (Int × Int))(t:Str)(ks:List (List Int)):List (List Int):=qac (gath (qaz (oneM ks) (onR ps t)))
def bhJ (ps:List (Int × Int))(t:Str)(ks:List (List Int)):Nat->List (List Int)
 | 0=>ks
 | j + 1=>bhS ps t (bhJ ps t ks j)
theorem qjE {ps:List (Int × Int)}{t:Str}{ks:List (List Int)}{k:List Int}:k∈bhS ps t ks↔∃ l∈ks,k∈qac (onR ps t l):=by
 unfold bhS
 rw [qbp,qbw]
 constructor
 ·rintro ⟨l,hl,h⟩; rw [qaO] at hl; exact ⟨l,hl,h⟩
 ·rintro ⟨l,hl,h⟩; exact ⟨l,by rw [qaO]; exact hl,h⟩
theorem qnI (ps:List (Int × Int))(t:Str)(ks:List (List Int)):(bhS ps t ks).Nodup:=qbR _
theorem qlW {ps:List (Int × Int)}{t:Str}{l k:List Int}(h:k∈qac (onR ps t l)):k.length=l.length:=by
 obtain ⟨q,hq,rfl⟩:=List.mem_map.mp h
 unfold onR at hq
 obtain ⟨r,_,hq⟩:=List.mem_flatMap.mp hq
 unfold onQ at hq
 simp only [List.mem_cons,List.not_mem_nil,or_false] at hq
 rcases hq with rfl | rfl
 ·exact qbe _ _
 ·exact qbe _ _
theorem qjF {ps:List (Int × Int)}{t:Str}{n:Nat}{ks:List (List Int)}(h:∀ k∈ks,k.length=n):∀ j,∀ k∈bhJ ps t ks j,k.length=n
 | 0=>h
 | j + 1=>fun k hk=>by
  obtain ⟨l,hl,hk⟩:=qjE.mp hk
  rw [qlW hk]; exact qjF h j l hl
theorem qlj {ps:List (Int × Int)}{t:Str}{ks:List (List Int)}(h:ks.Nodup):∀ j,(bhJ ps t ks j).Nodup
 | 0=>h
 | _ + 1=>qnI _ _ _
section
variable {P:Program}{w:World}{K:PySem.W.Frag}{mg:Str->Option Value}{base:Heap}
def qgp:Sp:=fun vs H Q _=>∃ (v:V) (l:Addr) (bs:List Addr) (ks:List (List Int)) (n:Nat) (ps:List (Int × Int)) (t:Str),vs=[v,.ref l]/\qbc H v n ps t/\Few n ps/\ps.length≤40/\n≤6/\H l=some (.lst (bs.map V.ref))/\qa4 H bs ks/\ks.Nodup/\(∀ k∈ks,k.length=n)/\ks.length≤501 /\
 ∀ (q:Addr) (bs':List Addr) (H':Hp),Same H H'->H' q=some (.lst (bs'.map V.ref))->qa4 H' bs' (bhS ps t ks)->Q (.ref q) H'
theorem qiE (T:Txt2 mg)(C_l_on:Cal P w K mg base "_law_on" ["_law_net_here", "_law_found"] 1 spOn)(F:FunAt K mg "_law_behind" ["_law_net_here", "_law_some"] s_l_behind):Cal P w K mg base "_law_behind" ["_law_net_here", "_law_some"] 2 qgp:=by
 have S:=qdb
 refine F.cal qdb (fun vs H Q E h=>?_) (fun f cdv A outer s H vs Q E hr h=>?_)
 ·obtain ⟨v,l,bs,ks,n,ps,t,rfl,_⟩:=h; rfl
 obtain ⟨v,l,bs,ks,n,ps,t,rfl,net,few,p40,n6,hl,tb,nd,ln,k501,kont⟩:=h
 have hu3:=qk9 hr
 have bl:=Paired.length tb
 refine ⟨_,(@pO _ _ _ (@qan _ _ _ _ (@qbv _ _ _ _ _ _ _ _ _ (qhI ⋯) ⋯ (by exact T.z_list) (by exact qmB) (@pC _ _ _ _ _ (@cc _ _ _ _ _ _ _ _ _ _ (by exact C_l_on) (by exact (hr.mono (by decide))) (@pC _ _ _ _ _ (pv 0) (@pC _ _ _ _ _ (@qbv _ _ _ _ _ _ _ _ _ (qd0 ⋯ hu3) ⋯ (by exact T.z_dict) (by exact qjC) (@pC _ _ _ _ _ (@qej _ _ _ _ _ _ _ _ _ _ _ (["_law_stand_here"]) (fun _=>[none]) ⋯ (by exact (fun _ _ h=>h)) (by decide +kernel) ⋯ (by decide +kernel) (by decide +kernel) (by exact Sees.none1) (@qa5 _ _ _ _ (pv 1)) (fun _ _ _ _ _ => @pG _ _ (0) _ (by exact (show (["_law_stand_here"]:List Str).Nodup by decide +kernel)) ⋯ ⋯ ⋯) (fun _ _ _ _ _=>qbi) (fun _ _ _ _ _=>(@qag _ _ _ _ _ (@pC _ _ _ _ _ (pv 0) (@pC _ _ _ _ _ pI pN ⋯) ⋯))) ⋯) pN ⋯) ⋯ ⋯ ⋯ ⋯) pN ⋯) ⋯) ⋯ ⋯ ⋯ ⋯) pN ⋯) ⋯ ⋯ ⋯ ⋯))),?_⟩
 refine ⟨_,rfl,_,rfl,l,rfl,⟨_,SqL.of hl⟩,qcW (qaF (xs:=bs.map V.ref)) (fun p i ys σ' H'=>Same H H'/\(∃ o1,σ'=[o1])/\qkN H' ys ((oneM (ks.take i)).map kII)) (by rw [List.length_map]; omega) ?_ ?_ ?_ ?_⟩
 ·exact fun p hp=>⟨sN hp _,⟨_,rfl⟩,.nil⟩
 ·rintro p i ys σ' H' hp ⟨s',_⟩
  exact s' _ _ hl
 ·rintro p' i ys σ' H' x H'' hp' hi hl' ⟨s',⟨o1,rfl⟩,rw'⟩ hp'' ⟨rfl,hx⟩ Q1 Q2 h1 h2
  rw [List.getElem?_map,Option.map_eq_some_iff] at hx
  obtain ⟨b2,hb2,rfl⟩:=hx
  obtain ⟨k,hk,hbk⟩:=qah tb hb2
  refine gN_ (tT_ (iteT ⟨_,rfl,lz 2 rfl,fun t2 ht2=>?_⟩))
  have s6:=sN ht2 (.tup [.ref b2,.int 1])
  have hp6:=s6 _ _ hp''
  refine h1 _ _ _ hp6 ⟨qa8 hp' (s'.trans s6) _,⟨_,rfl⟩,?_⟩
  rw [take_snoc hk]
  unfold oneM
  rw [List.map_append,List.map_append]
  refine qaC (Paired.imp' (fun v kv ⟨a,b,e,ha,hb⟩=>⟨a,b,e,tupL hp6 _ _ (s6 _ _ ha),tupL hp6 _ _ (s6 _ _ hb)⟩) rw') ⟨t2,b2,rfl,tupL hp6 _ _ uS,?_⟩
  exact qcV (tupL hp6 _ _ (s6 _ _ (s' _ _ hbk)))
 ·rintro p' ys σ' HI hp' ⟨s',_,rw'⟩ hp'' hl'
  rw [List.length_map,bl,List.take_length] at rw'
  have yl:=Paired.length rw'
  refine ⟨p',ys,_,rfl,hp'',rw',by rw [yl]; simp [oneM]; omega,fun d hd=>?_⟩
  rw [qcI ks.length (oneM ks) (by simp [oneM]) (by rw [qaO]; exact nd)]
  have s8:=sN hd (dI (oneM ks))
  have gd:(upd HI d (dI (oneM ks))) d=_:=uS
  refine ⟨v,d,n,ps,t,oneM ks,rfl,(net.same s').same s8,few,p40,n6,gd,by rw [qaO]; exact nd,by simp [oneM]; omega,fun k hk=>by rw [qaO] at hk; exact ln k hk,fun e HJ s9 hne he=>?_⟩
  refine ⟨e,_,bhS ps t ks,rfl,.inl he,?_,fun q bs' hq tb'=>?_⟩
  ·unfold bhS qac; rw [List.map_map,List.map_map]; rfl
  ·have s10:=sN hq (.lst (bs'.map V.ref))
   exact kont q bs' _ (s'.trans (s8.trans (s9.trans s10))) uS (Paired.imp' (fun b k e=>s10 b _ e) tb')
def qlz:Sp:=fun vs H Q _=>∃ (v:V) (l:Addr) (bs:List Addr) (ks:List (List Int)) (n b:Nat) (ps:List (Int × Int)) (t:Str) (k:Nat),vs=[v,.ref l,.int (k:Int)]/\qbc H v n ps t/\Few n ps/\ps.length≤40/\n≤6/\H l=some (.lst (bs.map V.ref))/\qa4 H bs ks/\ks≠[]/\ks.Nodup/\(∀ k∈ks,k.length=b)/\ks.length≤501/\k≤100 /\
 (b≠n->∀ H',Same H H'->Q (.str "unlike") H')/\(b=n ->
  (∀ j,j < k->(∀ i,1≤i->i≤j->(bhJ ps t ks i).length≤500)->500 < (bhJ ps t ks (j + 1)).length->∀ H',Same H H'->Q (.str "many") H') /\
  ((∀ i,1≤i->i≤k->(bhJ ps t ks i).length≤500)->∀ H',Same H H'->Q (.str "told") H'))
theorem qnh (T:Txt2 mg)(C_l_behind:Cal P w K mg base "_law_behind" ["_law_net_here", "_law_some"] 2 qgp)(F:FunAt K mg "_law_due" ["_law_net_here", "_law_some", "_law_many"] s_l_due):Cal P w K mg base "_law_due" ["_law_net_here", "_law_some", "_law_many"] 3 qlz:=by
 have S:=qgx
 refine F.cal qgx (fun vs H Q E h=>?_) (fun f cdv A outer s H vs Q E hr h=>?_)
 ·obtain ⟨v,l,bs,ks,n,b,ps,t,k,rfl,_⟩:=h; rfl
 obtain ⟨v,l,bs,ks,n,b,ps,t,k,rfl,net,few,p40,n6,hl,tb,ne,nd,ln,k501,k1,kU,kO⟩:=h
 refine ⟨_,(@pK _ _ _ _ _ (@qbj _ _ _ _ _ _ _ _ (@qal _ _ _ _ _ _ _ _ qen (@qaw _ _ _ _ _ _ _ qas (pv 0) pI (by exact (fun _ _=>rfl))) (@qak _ _ _ _ _ _ _ _ _ qaH ⋯ (by exact T.z_len) (by exact qcy) (@pC _ _ _ _ _ (@qaw _ _ _ _ _ _ _ qaQ (pv 1) pI (by exact (fun _ _=>rfl))) pN ⋯) ⋯ ⋯ ⋯ ⋯) (by exact (qax _))) (@pO _ _ _ (@qan _ _ _ _ qav)) qaA) (@pK _ _ _ _ _ (@qbd _ _ _ _ _ _ _ _ (by exact PassesOwn.never) ⋯ (@qbl _ _ _ _ _ _ ⋯ (by exact T.z_range) (@pC _ _ _ _ _ (pv 2) pN ⋯) ⋯) (@pG _ _ (3) _ (by exact S.nd) ⋯ ⋯ ⋯) (@pK _ _ _ _ _ (@pZ _ _ (1) _ _ _ _ (by exact S.nd) ⋯ ⋯ (@cc _ _ _ _ _ _ _ _ _ _ (by exact C_l_behind) (by exact (hr.mono (by decide))) (@pC _ _ _ _ _ (pv 0) (@pC _ _ _ _ _ (pv 1) pN ⋯) ⋯) ⋯ ⋯ ⋯ ⋯) ⋯ ⋯) (@pO _ _ _ (@qbj _ _ _ _ _ _ _ _ (@qal _ _ _ _ _ _ _ _ qfQ (@qak _ _ _ _ _ _ _ _ _ qaH ⋯ (by exact T.z_len) (by exact qcy) (@pC _ _ _ _ _ (pv 1) pN ⋯) ⋯ ⋯ ⋯ ⋯) pI (by exact (qax _))) (@pO _ _ _ (@qan _ _ _ _ qav)) qaA))) ⋯) (@pO _ _ _ (@qan _ _ _ _ qav)))),?_⟩
 obtain ⟨na,nb,xs,rfl,hna,hnb,prs⟩:=id net
 cases bs with
 | nil=>cases tb; exact absurd rfl ne
 | cons b0 bs0 =>
 obtain ⟨k0,ks',rfl⟩:=List.exists_cons_of_ne_nil ne
 have hb0:H b0=some (.tup (iv k0)):=by cases tb with | cons h _=>exact h
 have ln0:=ln k0 (by simp)
 have ha0:atI ((b0 :: bs0).map V.ref) 0=some (.ref b0):=by simp [atI,ixN]
 refine ⟨_,rfl,na,_,_,_,rfl,rfl,SqT.of hna,rfl,_,rfl,l,_,_,_,rfl,rfl,SqL.of hl,ha0,b0,_,rfl,.inr (SqT.of hb0),rfl,_,rfl,?_⟩
 refine ite2 (fun c=>?_) (fun c=>?_)
 ·exact kU (fun e=>absurd c (by simp [<- e,ln0])) _ (Same.refl _)
 have ebn:b=n:=by
  have:(n:Int)=((iv k0).length:Nat):=by simpa using c
  rw [List.length_map,ln0] at this
  omega
 obtain ⟨kM,kT⟩:=kO ebn
 rw [ebn] at ln
 refine ⟨_,rfl,(k:Int),rfl,by omega,by omega,qbK (n:=((k:Int)).toNat) (fun j σ H2=>Same H H2/\(∀ i,1≤i->i≤j->(bhJ ps t (k0 :: ks') i).length≤500)/\∃ (q:Addr) (bs':List Addr) (o4:Option V),σ=[some (.ref na),some (.ref q),some (.int (k:Int)),o4]/\H2 q=some (.lst (bs'.map V.ref))/\qa4 H2 bs' (bhJ ps t (k0 :: ks') j)) ?_ ?_ ?_⟩
 ·exact ⟨Same.refl _,fun i h1 h2=>absurd h1 (by omega),l,b0 :: bs0,_,rfl,hl,tb⟩
 ·rintro j σ H2 hj ⟨s2,hi,q,bs',o4,rfl,hq,tb'⟩
  refine ⟨_,rfl,_,rfl,.ref na,q,bs',_,n,ps,t,rfl,net.same s2,few,p40,n6,hq,tb',qlj nd j,qjF ln j,?_,fun q2 bs2 H3 s3 hq2 tb2=>?_⟩
  ·by_cases z:j=0
   ·subst z; exact k501
   ·have:=hi j (by omega) (Nat.le_refl _); omega
  have bl2:=Paired.length tb2
  refine gN_ ?_
  refine ⟨_,rfl,q2,_,rfl,.inl (SqL.of hq2),_,_,rfl,rfl,_,rfl,?_⟩
  refine ite2 (fun c=>?_) (fun c=>?_)
  ·have c':(500:Int) < ((bs2.map V.ref).length:Nat):=of_decide_eq_true c
   rw [List.length_map,bl2] at c'
   exact kM j (by omega) hi (by show 500 < (bhS ps t (bhJ ps t (k0 :: ks') j)).length; omega) _ (s2.trans s3)
  ·have c':¬ (500:Int) < ((bs2.map V.ref).length:Nat):=fun z=>c (decide_eq_true z)
   rw [List.length_map,bl2] at c'
   refine ⟨s2.trans s3,fun i h1 h2=>?_,q2,bs2,_,rfl,hq2,tb2⟩
   by_cases z:i=j + 1
   ·subst z
    show (bhS ps t (bhJ ps t (k0 :: ks') j)).length≤500
    omega
   ·exact hi i h1 (by omega)
 ·rintro σ H2 ⟨s2,hi,q,bs',o4,rfl,hq,tb'⟩
  exact kT (fun i h1 h2=>hi i h1 (by omega)) _ s2
end
theorem qiy {X:Cx}(K:PySem.W.Frag)(h:X.K=K):OpR X (binaryOp .Add) (qkX K):=by subst h; exact qgK
theorem qcc {H:Hp}{l b:Addr}{zs us:List V}{o:HO}(hl:H l=some (.lst zs))(h:H b=some (.tup us)):upd H l o b=some (.tup us):=by
 rw [uE (qb2 h hl (by intro z; cases z))]; exact h
theorem qhn {α β:Type}{F:α->β->Prop}{a c:List α}{b d:List β}(h:Paired F a b)(g:Paired F c d):Paired F (a ++ c) (b ++ d):=by
 induction h with
 | nil=>exact g
 | cons r _ ih=>exact .cons r ih
theorem qcv:∀ (n j:Nat) (e:List Int),e∈comps n j->e.length=n/\(∀ x∈e,0≤x)/\e.sum=j
 | 0,j,e,h=>by
  unfold comps at h
  split at h
  ·rename_i z; have:=List.mem_singleton.mp h; subst this; simp [z]
  ·cases h
 | n + 1,j,e,h=>by
  unfold comps at h
  obtain ⟨x,hx,h⟩:=List.mem_flatMap.mp h
  obtain ⟨l,hl,rfl⟩:=List.mem_map.mp h
  have hx:=List.mem_range.mp hx
  obtain ⟨a,b,c⟩:=qcv n _ l hl
  refine ⟨by simp [a],fun y hy=>?_,by rw [List.sum_cons,c]; omega⟩
  rcases List.mem_cons.mp hy with rfl | hy
  ·omega
  ·exact b y hy
theorem qeA:∀ (n j:Nat),(comps n j).Nodup
 | 0,j=>by unfold comps; split <;> simp
 | n + 1,j=>by
  unfold comps
  rw [List.nodup_iff_pairwise_ne,List.pairwise_flatMap]
  refine ⟨fun x _=>?_,?_⟩
  ·refine List.pairwise_map.mpr ((qeA n (j - x)).imp fun h z=>h (List.cons.inj z).2)
  ·refine (List.nodup_range (n:=j + 1)).imp fun h u hu v hv e=>?_
   obtain ⟨u',_,rfl⟩:=List.mem_map.mp hu
   obtain ⟨v',_,rfl⟩:=List.mem_map.mp hv
   have:=(List.cons.inj e).1
   exact h (by omega)
theorem qjq (b:Nat):comps 1 b=[[(b:Int)]]:=by
 unfold comps
 rw [List.range_succ,List.flatMap_append]
 have e:((List.range b).flatMap fun x=>(comps 0 (b - x)).map fun l=>(x:Int) :: l)=[]:=by
  rw [List.flatMap_eq_nil_iff]
  intro x hx
  have:=List.mem_range.mp hx
  unfold comps
  rw [if_neg (by omega)]; rfl
 rw [e]; simp [comps]
def allI (n b i:Nat):List (List Int):=(List.range i).flatMap fun x=>(comps n (b - x)).map fun l=>(x:Int) :: l
theorem qdB (n b i:Nat):allI n b (i + 1)=allI n b i ++ (comps n (b - i)).map fun l=>(i:Int) :: l:=by
 unfold allI; rw [List.range_succ,List.flatMap_append]; simp
theorem qmC {n b i j:Nat}(h:i≤j):(allI n b i).length≤(allI n b j).length:=by
 induction j with
 | zero=>rw [show i=0 by omega]; exact Nat.le_refl _
 | succ j ih =>
  by_cases e:i=j + 1
  ·subst e; exact Nat.le_refl _
  ·have:=ih (by omega)
   rw [qdB,List.length_append]; omega
section
variable {P:Program}{w:World}{K:PySem.W.Frag}{mg:Str->Option Value}{base:Heap}
def qjU (N:Nat):Sp:=fun vs H Q _=>∃ (n b:Nat),vs=[.int (n:Int),.int (b:Int)]/\1≤n/\n≤N/\n≤6/\b≤100/\(comps n b).length≤1000 /\
 ∀ (q:Addr) (bs:List Addr) (H':Hp),Same H H'->H' q=some (.lst (bs.map V.ref))->qa4 H' bs (comps n b)->Q (.ref q) H'
theorem ql3 (F:FunAt K mg "_law_all" ["_law_n", "_law_balls"] s_l_all):Cal P w K mg base "_law_all" ["_law_n", "_law_balls"] 1 (qjU 0):=by
 refine F.cal qed (fun vs H Q E h=>?_) (fun f cdv A outer s H vs Q E hr h=>?_)
 ·obtain ⟨n,b,rfl,_⟩:=h; rfl
 obtain ⟨n,b,rfl,h1,h2,_⟩:=h
 omega
theorem qcH {N:Nat}(T:Txt2 mg)(F:FunAt K mg "_law_all" ["_law_n", "_law_balls"] s_l_all)(C_l_all:Cal P w K mg base "_law_all" ["_law_n", "_law_balls"] (N + 1) (qjU N)):Cal P w K mg base "_law_all" ["_law_n", "_law_balls"] (N + 2) (qjU (N + 1)):=by
 have S:=qed
 refine F.cal qed (fun vs H Q E h=>?_) (fun f cdv A outer s H vs Q E hr h=>?_)
 ·obtain ⟨n,b,rfl,_⟩:=h; rfl
 obtain ⟨n,b,rfl,n1,nN,n6,b1,few,kont⟩:=h
 refine ⟨_,(@pK _ _ _ _ _ (@qbj _ _ _ _ _ _ _ _ (@qal _ _ _ _ _ _ _ _ qfS (pv 0) pI (by exact (qax _))) (@pO _ _ _ (@qan _ _ _ _ (@qaG _ _ _ _ (@pC _ _ _ _ _ (@qag _ _ _ _ _ (@pC _ _ _ _ _ (pv 1) pN ⋯)) pN ⋯)))) qaA) (@pK _ _ _ _ _ (@pZ _ _ (2) _ _ _ _ (by exact S.nd) ⋯ ⋯ (@qaG _ _ _ _ pN) ⋯ ⋯) (@pK _ _ _ _ _ (@qbd _ _ _ _ _ _ _ _ (by exact PassesOwn.never) ⋯ (@qbl _ _ _ _ _ _ ⋯ (by exact T.z_range) (@pC _ _ _ _ _ (@pP _ _ _ _ _ _ _ _ qaP (pv 1) pI) pN ⋯) ⋯) (@pG _ _ (3) _ (by exact S.nd) ⋯ ⋯ ⋯) (@pO _ _ _ (@qbZ _ _ _ _ (@qiv _ _ _ _ _ _ _ _ _ _ _ _ (by exact PySem.F.plainAttrs_list) (by exact PySem.F.slot_list_extend) (by exact PySem.F.type_list_extend) qiM (pv 2) (@pC _ _ _ _ _ (@qcF _ _ _ _ _ _ _ _ _ _ _ _ _ ⋯ (by exact (fun _ _ h=>h)) (by decide +kernel) ⋯ (by decide +kernel) (by exact qbH rfl) (by exact Sees.frees ["_law_rest"] [("_law_first",3)] (qaI ⟨rfl,rfl⟩ qbJ)) (@qa5 _ _ _ _ (@cc _ _ _ _ _ _ _ _ _ _ (by exact C_l_all) (by exact (hr.mono (Nat.le_refl _))) (@pC _ _ _ _ _ (@pP _ _ _ _ _ _ _ _ qe3 (pv 0) pI) (@pC _ _ _ _ _ (@pP _ _ _ _ _ _ _ _ qe3 (pv 1) (pv 3)) pN ⋯) ⋯) ⋯ ⋯ ⋯ ⋯)) (fun _ _ _ _ _ => @pG _ _ (0) _ (by exact (show (["_law_rest", "_law_first"]:List Str).Nodup by decide +kernel)) ⋯ ⋯ ⋯) (fun _ _ _ _ _=>qbi) (fun _ _ _ _ _=>(@pP _ _ _ _ _ _ _ _ (qiy K ⋯) (@qag _ _ _ _ _ (@pC _ _ _ _ _ (pv 1) pN ⋯)) (pv 0))) ⋯) pN ⋯) ⋯ ⋯ ⋯ ⋯ ⋯) ⋯)) ⋯) (@pO _ _ _ (@qan _ _ _ _ (pv 2)))))),?_⟩
 refine ⟨_,rfl,rfl,_,rfl,ite2 (fun c=>?_) (fun c=>?_)⟩
 ·have n1:n=1:=by
   have:V.int (n:Int)=V.int 1:=by simpa using c
   have:=V.int.inj this
   omega
  subst n1
  rw [qjq] at kont
  refine ⟨_,rfl,(by show 1≤sizeLine; decide),fun t ht=>⟨(by show 1≤sizeLine; decide),fun l hl=>?_⟩⟩
  have s1:=sN ht (.tup [.int (b:Int)])
  have s2:=sN hl (.lst [.ref t])
  exact kont l [t] _ (s1.trans s2) uS (.cons (s2 _ _ uS) .nil)
 ·have n2:n≠1:=fun e=>c (by subst e; rfl)
  obtain ⟨n',rfl⟩:∃ n',n=n' + 1:=⟨n - 1,by omega⟩
  have eM:comps (n' + 1) b=allI n' b (b + 1):=rfl
  rw [eM] at few kont
  refine ⟨(by show 0≤sizeLine; decide),fun l hl=>?_⟩
  refine gN_ ?_
  have em:((b:Int) + 1).toNat=b + 1:=by omega
  refine ⟨_,rfl,_,_,rfl,rfl,_,rfl,by omega,by omega,qbK (n:=((b:Int) + 1).toNat) (fun j σ H'=>SmB l H H'/\∃ (bs:List Addr) (o4:Option V),σ=[some (.int ((n' + 1:Nat):Int)),some (.int (b:Int)),some (.ref l),o4]/\H' l=some (.lst (bs.map V.ref))/\qa4 H' bs (allI n' b j)) ?_ ?_ ?_⟩
  ·exact ⟨fun b u n e=>by rw [uE n]; exact e,[],_,rfl,uS,.nil⟩
  ·rintro j σ H1 hj ⟨s1,bs,o4,rfl,hl1,tb⟩
   rw [em] at hj
   have f1:=qmC (n:=n') (b:=b) (show j + 1≤b + 1 by omega)
   rw [qdB,List.length_append,List.length_map] at f1
   rw [Int.zero_add]
   refine ⟨_,rfl,.inl ⟨rfl,_,SqL.of hl1⟩,?_⟩
   refine ⟨_,rfl,_,_,rfl,rfl,_,rfl,_,rfl,_,_,rfl,rfl,n',b - j,?_,by omega,by omega,by omega,by omega,by omega,fun q bs2 H2 s2 hq tb2=>?_⟩
   ·show [V.int (((n' + 1:Nat):Int) - 1),V.int ((b:Int) - (j:Int))]=_
    rw [show ((n' + 1:Nat):Int) - 1=(n':Int) by omega,show (b:Int) - (j:Int)=((b - j:Nat):Int) by omega]
   have bl:=Paired.length tb
   have bl2:=Paired.length tb2
   have hl2:=s2 _ _ hl1
   refine ⟨q,rfl,⟨_,SqL.of hq⟩,qcW (qaF (xs:=bs2.map V.ref)) (fun p i ys σ' H'=>Same H2 H'/\(∃ o1,σ'=[o1,some (.int (j:Int))])/\∃ bs3:List Addr,ys=bs3.map V.ref/\qa4 H' bs3 (((comps n' (b - j)).take i).map fun l=>(j:Int) :: l)) (by rw [List.length_map]; omega) ?_ ?_ ?_ ?_⟩
   ·exact fun p hp=>⟨sN hp _,⟨_,rfl⟩,[],rfl,.nil⟩
   ·rintro p i ys σ' H' hp ⟨s',_⟩
    exact s' _ _ hq
   ·rintro p i ys σ' H' x H'' hp hi hl' ⟨s',⟨o1,rfl⟩,bs3,rfl,tb3⟩ hp' ⟨rfl,hx⟩ Q1 Q2 h1 h2
    rw [List.getElem?_map,Option.map_eq_some_iff] at hx
    obtain ⟨b2,hb2,rfl⟩:=hx
    obtain ⟨k,hk,hbk⟩:=qah tb2 hb2
    have kl:k.length=n':=(qcv _ _ k (List.mem_of_getElem? hk)).1
    refine gN_ ?_
    refine tT_ (iteT ⟨_,rfl,(by show 1≤sizeLine; decide),fun t ht=>?_⟩)
    have s4:=sN ht (.tup [.int (j:Int)])
    refine ⟨_,rfl,t,b2,_,_,rfl,rfl,SqT.of uS,SqT.of (s4 _ _ (s' _ _ hbk)),(by rw [sizeLine_eq]; simp; omega),fun e=>absurd e (by simp),fun _ e=>absurd (congrArg List.length e) (by rw [List.length_map,kl]; simp; omega),fun _ _ t2 ht2=>?_⟩
    have s5:=sN ht2 (.tup (iv ((j:Int) :: k)))
    have s45:=s4.trans s5
    have g2:=fun H=>uS (H:=H) (a:=t2) (o := .tup (iv ((j:Int) :: k)))
    have hp5:=s45 _ _ hp'
    refine h1 _ _ _ hp5 ⟨qa8 hp (s'.trans s45) _,⟨_,rfl⟩,bs3 ++ [t2],by simp,?_⟩
    rw [take_snoc hk,List.map_append]
    exact Paired.snoc (Paired.imp' (fun b k e=>qcc hp5 (s45 _ _ e)) tb3) (qcc hp5 (g2 _))
   ·rintro p ys σ' H3 hp ⟨s3,_,bs3,rfl,tb3⟩ hp' hl'
    rw [List.length_map,bl2,List.take_length] at tb3
    have bl3:=Paired.length tb3
    rw [List.length_map] at bl3
    have hl3:=s3 _ _ hl2
    refine ⟨l,p,_,_,rfl,rfl,hl3,hp',(by rw [sizeLine_eq]; simp; omega),?_⟩
    refine ⟨(s1.trans (.of (s2.trans s3))).upd _,bs ++ bs3,_,rfl,by rw [uS,List.map_append],?_⟩
    rw [qdB]
    exact qhn (Paired.imp' (fun b k e=>qcc hl3 ((s2.trans s3) _ _ e)) tb) (Paired.imp' (fun b k e=>qcc hl3 e) tb3)
  ·rintro σ H1 ⟨s1,bs,o4,rfl,hl1,tb⟩
   rw [em] at tb
   exact ⟨_,rfl,kont l bs _ (fun b u e=>s1 b u (qab e hl) e) hl1 tb⟩
end
theorem qby {n a:Nat}(h:a < n)(c:Int)(F:Nat->Int):((List.range n).map fun i=>(if a=i then c else 0) * F i).sum=c * F a:=by
 have e:((List.range n).map fun i=>(if a=i then c else 0) * F i)=(List.range n).map fun i=>if a=i then c * F a else 0:=List.map_congr_left fun i _=>by
  by_cases z:a=i
  ·subst z; rw [if_pos rfl,if_pos rfl]
  ·rw [if_neg z,if_neg z]; omega
 rw [e,qd7 h]
theorem pw_go {n:Nat}{t:Str}{st:List Int}{q:Int × Int}(ht:Tie t)(h1:q.1.toNat < n)(h2:q.2.toNat < n)(F:Nat->Int):((List.range n).map fun i=>pw1 t st q i * F i).sum=F (goF t st q).1 + F (goF t st q).2:=by
 unfold pw1 goF
 by_cases z:t = "dice" /\ st.getD q.1.toNat 0=st.getD q.2.toNat 0
 ·have nl:t ≠ "left" := by rw [z.1]; decide
  simp only [if_pos z]
  rw [if_neg (fun y=>y.elim (fun y=>by omega) fun y=>nl y.2),if_neg (by omega)]
  have e:((List.range n).map fun i=>((if q.1.toNat=i then (1:Int) else 0) + if q.2.toNat=i then 1 else 0) * F i)=(List.range n).map fun i=>(if q.1.toNat=i then 1 else 0) * F i + (if q.2.toNat=i then 1 else 0) * F i:=List.map_congr_left fun i _=>Int.add_mul _ _ _
  rw [e,qc8,qby h1,qby h2]; show 1 * F q.1.toNat + 1 * F q.2.toNat=F q.1.toNat + F q.2.toNat; omega
 ·simp only [if_neg z]
  by_cases y:st.getD q.2.toNat 0 < st.getD q.1.toNat 0
  ·have nx:¬ (st.getD q.1.toNat 0 < st.getD q.2.toNat 0\/(st.getD q.1.toNat 0=st.getD q.2.toNat 0/\t = "left")):=fun x=>by
    rcases x with x | x
    ·omega
    ·have:=x.1; omega
   simp only [if_pos y,if_neg nx]
   rw [qby h2]; show 2 * F q.2.toNat=F q.2.toNat + F q.2.toNat; omega
  ·have x:st.getD q.1.toNat 0 < st.getD q.2.toNat 0\/(st.getD q.1.toNat 0=st.getD q.2.toNat 0/\t = "left"):=by
    rcases ht with e | e
    ·by_cases v:st.getD q.1.toNat 0=st.getD q.2.toNat 0
     ·exact .inr ⟨v,e⟩
     ·exact .inl (by omega)
    ·exact .inl (by
      have:st.getD q.1.toNat 0≠st.getD q.2.toNat 0:=fun v=>z ⟨e,v⟩
      omega)
   simp only [if_neg y,if_pos x]
   rw [qby h1]; show 2 * F q.1.toNat=F q.1.toNat + F q.1.toNat; omega
theorem qnd {n:Nat}{t:Str}(ht:Tie t)(l:List Int)(f:List Int->Int):∀ {ps:List (Int × Int)},Few n ps->tot (onR ps t l) f=tot (nxF n ps t l) f
 | [],_=>by
  rw [qdJ]
  have:∀ r:List Nat,(r.map fun i=>bwF [] t l i * f (putS l i)).sum=0:=fun r=>by induction r with
   | nil=>rfl
   | cons a r ih=>rw [List.map_cons,List.sum_cons,ih]; show 0 * _ + 0=(0:Int); omega
  rw [this]; rfl
 | q :: ps,fw=>by
  have ih:=qnd ht l f (ps:=ps) fun r hr=>fw r (List.mem_cons_of_mem _ hr)
  obtain ⟨a,b,c,d⟩:=fw q List.mem_cons_self
  have e1:onR (q :: ps) t l=onQ t l q ++ onR ps t l:=by unfold onR; rw [List.flatMap_cons]
  rw [e1,qcB,ih,qdJ,qdJ]
  have e2:((List.range n).map fun i=>bwF (q :: ps) t l i * f (putS l i))=(List.range n).map fun i=>pw1 t l q i * f (putS l i) + bwF ps t l i * f (putS l i):=List.map_congr_left fun i _=>by
   rw [<- Int.add_mul]; unfold bwF; rw [List.map_cons,List.sum_cons]
  rw [e2,qc8,pw_go ht (by omega) (by omega) fun i=>f (putS l i)]
  congr 1
  unfold tot onQ
  simp only [List.map_cons,List.map_nil,List.sum_cons,List.sum_nil]
  omega
theorem qf2 {k:List Int}:∀ {m:Mp},(∀ p∈m,0 < p.2)->0≤tot m (indL k)/\(k∈qac m↔0 < tot m (indL k))
 | [],_=>by simp [tot,qac]
 | p :: m,h=>by
  have ih:=qf2 (k:=k) (m:=m) fun q hq=>h q (List.mem_cons_of_mem _ hq)
  have h0:=h p List.mem_cons_self
  have e:tot (p :: m) (indL k)=p.2 * indL k p.1 + tot m (indL k):=by unfold tot; rw [List.map_cons,List.sum_cons]
  have ek:k∈qac (p :: m)↔k=p.1\/k∈qac m:=by unfold qac; rw [List.map_cons,List.mem_cons]
  rw [e,ek]
  unfold indL at ih ⊢
  by_cases z:p.1=k
  ·rw [if_pos z,Int.mul_one]
   exact ⟨by omega,fun _=>by omega,fun _ => .inl z.symm⟩
  ·rw [if_neg z,Int.mul_zero,Int.zero_add]
   refine ⟨ih.1,fun y=>ih.2.mp (y.resolve_left fun w=>z w.symm),fun y => .inr (ih.2.mpr y)⟩
theorem qnc {ps:List (Int × Int)}{t:Str}{l:List Int}:∀ q∈onR ps t l,0 < q.2:=fun q h=>by
 unfold onR at h
 obtain ⟨r,hr,hq⟩:=List.mem_flatMap.mp h
 unfold onQ at hq
 simp only [List.mem_cons,List.not_mem_nil,or_false] at hq
 rcases hq with rfl | rfl
 ·show (0:Int) < 1; decide
 ·show (0:Int) < 1; decide
theorem qni {n:Nat}{ps:List (Int × Int)}{t:Str}{l:List Int}:∀ q∈nxF n ps t l,0 < q.2:=fun q h=>by
 obtain ⟨i,_,rfl,gp⟩:=qdk h
 exact gp
theorem qep {n:Nat}{ps:List (Int × Int)}{t:Str}(ht:Tie t)(fw:Few n ps)(l k:List Int):k∈qac (onR ps t l)↔k∈qac (nxF n ps t l):=by
 rw [(qf2 qnc).2,(qf2 qni).2,qnd ht l (indL k) fw]
theorem qhb {n:Nat}{ps:List (Int × Int)}{t:Str}(ht:Tie t)(fw:Few n ps)(st:List Int):∀ (j:Nat) (k:List Int),k∈bhJ ps t [st] j↔k∈qac (itS n ps t st j)
 | 0,k=>by show k∈[st]↔k∈[st]; exact Iff.rfl
 | j + 1,k=>by
  show k∈bhS ps t (bhJ ps t [st] j)↔k∈qac (gath (qaz (itS n ps t st j) (nxF n ps t)))
  rw [qjE,qbp,qbw]
  constructor
  ·rintro ⟨l,hl,h⟩; exact ⟨l,(qhb ht fw st j l).mp hl,(qep ht fw l k).mp h⟩
  ·rintro ⟨l,hl,h⟩; exact ⟨l,(qhb ht fw st j l).mpr hl,(qep ht fw l k).mpr h⟩
theorem qha {n:Nat}{ps:List (Int × Int)}{t:Str}(ht:Tie t)(fw:Few n ps)(st:List Int)(j:Nat):(bhJ ps t [st] j).length=(itS n ps t st j).length:=by
 have h1:=qdo (qlj (ps:=ps) (t:=t) (ks:=[st]) (by simp) j) fun k hk=>(qhb ht fw st j k).mp hk
 have h2:=qdo (qcq n ps t st j) fun k hk=>(qhb ht fw st j k).mpr hk
 have:(qac (itS n ps t st j)).length=(itS n ps t st j).length:=by simp [qac]
 omega
theorem qgz {n:Nat}{ps:List (Int × Int)}{t:Str}(ht:Tie t)(fw:Few n ps){ks:List (List Int)}(nd:ks.Nodup):(bhJ ps t ks 1).length=(gath (qaz (srt (oneM ks)) (nxF n ps t))).length:=by
 have e:∀ k,k∈bhS ps t ks↔k∈qac (gath (qaz (srt (oneM ks)) (nxF n ps t))):=fun k=>by
  rw [qjE,qbp,qbw]
  have hk:∀ l,l∈qac (srt (oneM ks))↔l∈ks:=fun l=>by
   unfold srt qac
   rw [List.map_map]
   show l∈List.map (fun k=>k) (rise (qac (oneM ks)))↔_
   rw [List.map_id',(qaS _).mem_iff,qaO]
  constructor
  ·rintro ⟨l,hl,h⟩; exact ⟨l,(hk l).mpr hl,(qep ht fw l k).mp h⟩
  ·rintro ⟨l,hl,h⟩; exact ⟨l,(hk l).mp hl,(qep ht fw l k).mpr h⟩
 have h1:=qdo (qnI ps t ks) fun k hk=>(e k).mp hk
 have h2:=qdo (qbR (qaz (srt (oneM ks)) (nxF n ps t))) fun k hk=>(e k).mpr hk
 have:(qac (gath (qaz (srt (oneM ks)) (nxF n ps t)))).length=(gath (qaz (srt (oneM ks)) (nxF n ps t))).length:=by simp [qac]
 show (bhS ps t ks).length=_
 omega
theorem qmz {n:Nat}{ps:List (Int × Int)}{t:Str}{st:List Int}(hl:st.length=n)(j:Nat):(itS n ps t st j).length≤(comps n j).length:=by
 have h1:(qac (itS n ps t st j)).length≤((comps n j).map fun e=>List.zipWith (· + ·) st e).length:=by
  refine qdo (qcq n ps t st j) fun k hk=>?_
  obtain ⟨e,e1,e2,e3,rfl⟩:=qgV hl j k hk
  exact List.mem_map.mpr ⟨e,qdx n j e e1 e2 e3,rfl⟩
 rw [List.length_map] at h1
 have:(qac (itS n ps t st j)).length=(itS n ps t st j).length:=by simp [qac]
 omega
theorem qlF (t:Str)(st:List Int)(i:Nat):pw1 t st ((i:Int),(i:Int)) i=2:=by
 unfold pw1
 simp only [Int.toNat_natCast]
 split
 ·simp
 ·simp
theorem qnE {ps:List (Int × Int)}{t:Str}{st:List Int}{i:Nat}(h:((i:Int),(i:Int))∈ps):0 < bwF ps t st i:=by
 induction ps with
 | nil=>cases h
 | cons q ps ih =>
  have e:bwF (q :: ps) t st i=pw1 t st q i + bwF ps t st i:=by unfold bwF; rw [List.map_cons,List.sum_cons]
  rw [e]
  have h1:=(qm3 t st q i).1
  have h2:=(qjz ps t st i).1
  rcases List.mem_cons.mp h with z | z
  ·rw [<- z,qlF]; omega
  ·have:=ih z; omega
def qbq (n:Nat):List (Int × Int):=(List.range n).map fun (i:Nat)=>((i:Int),(i:Int))
theorem qi2:∀ (e:List Int),(∀ x∈e,0≤x)->0 < e.sum->∃ i,i < e.length/\0 < e.getD i 0
 | [],_,h=>by simp at h
 | a :: e,nn,h=>by
  rw [List.sum_cons] at h
  by_cases z:0 < a
  ·exact ⟨0,by simp,by simpa using z⟩
  ·have:=nn a List.mem_cons_self
   obtain ⟨i,hi,hp⟩:=qi2 e (fun x hx=>nn x (List.mem_cons_of_mem _ hx)) (by omega)
   exact ⟨i + 1,by simpa using hi,by simpa using hp⟩
theorem qgr {n:Nat}{t:Str}:∀ (j:Nat) (e:List Int),e∈comps n j->e∈qac (itS n (qbq n) t (List.replicate n 0) j)
 | 0,e,h=>by
  obtain ⟨h1,h2,h3⟩:=qcv n 0 e h
  have:e=List.replicate n 0:=by
   refine List.eq_replicate_iff.mpr ⟨h1,fun x hx=>?_⟩
   have a:=h2 x hx
   have b:=qiN h2 hx
   omega
  rw [this]; show _∈[_]; simp
 | j + 1,e,h=>by
  obtain ⟨h1,h2,h3⟩:=qcv n (j + 1) e h
  obtain ⟨i,hi,hp⟩:=qi2 e h2 (by omega)
  have hi2:i < (e.set i (e.getD i 0 - 1)).length:=by rw [List.length_set]; exact hi
  have back:putS (e.set i (e.getD i 0 - 1)) i=e:=by
   refine qex (by rw [qbe,List.length_set]) fun x hx=>?_
   unfold putS
   rw [qch x hi2,qch i hi,if_pos rfl,qch x hi]
   by_cases z:x=i
   ·rw [if_pos z,z]; omega
   ·rw [if_neg z,if_neg z]
  have hm:e.set i (e.getD i 0 - 1)∈comps n j:=by
   refine qdx n j _ (by rw [List.length_set]; exact h1) (fun x hx=>?_) ?_
   ·rcases List.mem_or_eq_of_mem_set hx with z | z
    ·exact h2 x z
    ·rw [z]; omega
   ·have:=qgA (e:=e.set i (e.getD i 0 - 1)) hi2
    rw [back] at this
    omega
  show e∈qac (gath (qaz (itS n (qbq n) t (List.replicate n 0) j) (nxF n (qbq n) t)))
  rw [qbp,qbw]
  refine ⟨_,qgr j _ hm,?_⟩
  have hb:0 < bwF (qbq n) t (e.set i (e.getD i 0 - 1)) i:=qnE (List.mem_map.mpr ⟨i,List.mem_range.mpr (by omega),rfl⟩)
  refine List.mem_map.mpr ⟨(e,bwF (qbq n) t (e.set i (e.getD i 0 - 1)) i),?_,rfl⟩
  unfold nxF
  refine List.mem_flatMap.mpr ⟨i,List.mem_range.mpr (by omega),?_⟩
  rw [if_pos hb,back]; simp
theorem qgq (n:Nat)(t:Str)(j:Nat):(itS n (qbq n) t (List.replicate n 0) j).length=(comps n j).length:=by
 have h1:=qmz (n:=n) (ps:=qbq n) (t:=t) (st:=List.replicate n 0) (by simp) j
 have h2:=qdo (qeA n j) fun e he=>qgr (t:=t) j e he
 have:(qac (itS n (qbq n) t (List.replicate n 0) j)).length=(itS n (qbq n) t (List.replicate n 0) j).length:=by simp [qac]
 omega
def capS:List (Nat × Nat):=[(6,6),(5,8),(4,12)]
theorem qjs:∀ p∈capS,(∀ i:Fin 13,i.val≤p.2->(comps p.1 i.val).length≤500)/\500 < (comps p.1 (p.2 + 1)).length:=by decide +kernel
theorem seqJ {t u:TS}{D:Ends}{σ:St}{H:Hp}(C:St->Hp->Prop)(main:∀ R:St->Hp->Prop,(∀ σ' h,C σ' h->R σ' h)->t { D with nx:=R } σ H)(key:∀ σ' h,C σ' h->u D σ' h):tSeq t u D σ H:=main _ key
theorem qm6 {p:Nat}(hp:p≤40){j:Nat}(hj:j≤61):(2 * (p:Int)) ^ j≤80 ^ 61:=by
 have h1:(2 * p) ^ j≤80 ^ j:=Nat.pow_le_pow_left (by omega) j
 have h2:80 ^ j≤80 ^ 61:=Nat.pow_le_pow_right (by decide) hj
 have h3:(((2 * p) ^ j:Nat):Int)≤((80 ^ 61:Nat):Int):=by exact_mod_cast Nat.le_trans h1 h2
 rw [Int.natCast_pow] at h3
 simpa using h3
theorem qnH {x:Int}(h0:0≤x)(h:x≤80 ^ 61):Bt 500 x:=by
 have e:(80:Int) ^ 61 < 2 ^ 500:=by decide +kernel
 have e2:((2:Int) ^ 500)=((2 ^ 500:Nat):Int):=by decide +kernel
 exact Bt.of_lt (by show x.natAbs < 2 ^ 500; omega)
structure Nt (n:Nat)(ps:List (Int × Int))(t:Str):Prop where
 n1:1≤n
 n6:n≤6
 few:Few n ps
 p1:1≤ps.length
 p40:ps.length≤40
 ht:Tie t
theorem qmq {n:Nat}{ps:List (Int × Int)}{t:Str}{st:List Int}{k:Nat}(N:Nt n ps t)(hk:k≤60):FitA n ps t st k:=by
 refine ⟨N.n1,N.n6,N.few,N.p1,N.p40,by omega,fun j hj x hx=>?_⟩
 have hs:=qmi (t:=t) (st:=st) N.few j
 have h0:∀ y∈qap (itS n ps t st j),0≤y:=fun y hy=>by
  obtain ⟨p,hp,rfl⟩:=List.mem_map.mp hy
  exact Int.le_of_lt (qiY n ps t st j p hp)
 have h2:=qiN h0 hx
 have h3:=qm6 N.p40 (show j≤61 by omega)
 rw [hs] at h2
 exact (qnH (h0 x hx) (by omega)).mono (by decide)
def qmt (ps:List (Int × Int))(t:Str)(ks:List (List Int))(k:Nat):Bool:=(List.range k).all fun i=>decide ((bhJ ps t ks (i + 1)).length≤500)
def dueN (n b:Nat)(ps:List (Int × Int))(t:Str)(ks:List (List Int))(k:Nat):Str:=if b≠n then "unlike" else if qmt ps t ks k=true then "told" else "many"
section
variable {n b:Nat}{ps:List (Int × Int)}{t:Str}{ks:List (List Int)}{k:Nat}
theorem qjh (h:b≠n):dueN n b ps t ks k = "unlike" := if_pos h
theorem qg6 (h:b=n)(g:∀ i,1≤i->i≤k->(bhJ ps t ks i).length≤500):dueN n b ps t ks k = "told" := by
 unfold dueN
 rw [if_neg (by simpa using h),if_pos]
 unfold qmt
 refine List.all_eq_true.mpr fun i hi=>decide_eq_true (g (i + 1) (by omega) ?_)
 have:=List.mem_range.mp hi
 omega
theorem qg7 {j:Nat}(h:b=n)(hj:j < k)(g:500 < (bhJ ps t ks (j + 1)).length):dueN n b ps t ks k = "many" := by
 unfold dueN
 rw [if_neg (by simpa using h),if_neg]
 intro z
 unfold qmt at z
 have:=of_decide_eq_true (List.all_eq_true.mp z j (List.mem_range.mpr hj))
 omega
theorem qf6 {v:V}{l:Addr}{bs:List Addr}{H:Hp}{Q:VK}{E:XK}{z:Int}(hz:z=(k:Int))(N:Nt n ps t)(net:qbc H v n ps t)(hl:H l=some (.lst (bs.map V.ref)))(tb:qa4 H bs ks)(ne:ks≠[])(nd:ks.Nodup)(ln:∀ k∈ks,k.length=b)(k501:ks.length≤501)(k1:k≤100)(kk:∀ H',Same H H'->Q (.str (dueN n b ps t ks k)) H'):qlz [v,.ref l,.int z] H Q E:=by
 subst hz
 refine ⟨v,l,bs,ks,n,b,ps,t,k,rfl,net,N.few,N.p40,N.n6,hl,tb,ne,nd,ln,k501,k1,fun h H' s'=>?_,fun h=>⟨fun j hj _ hl H' s'=>?_,fun hall H' s'=>?_⟩⟩
 ·have:=kk H' s'; rw [qjh h] at this; exact this
 ·have:=kk H' s'; rw [qg7 h hj hl] at this; exact this
 ·have:=kk H' s'; rw [qg6 h hall] at this; exact this
theorem qgb {K:PySem.W.Frag}{er:Errs}{v:V}{a:Addr}{st:List Int}{H:Hp}{Q:VK}{z:Int}(hz:z=(k:Int))(e2:ErrI K er er.c2 2)(e4:ErrI K er er.c4 4)(N:Nt n ps t)(net:qbc H v n ps t)(ha:H a=some (.tup (iv st)))(sl:st.length=b)(hk:k≤60)(kk:∀ H',Same H H'->Q (.str (dueN n b ps t [st] k)) H'):qcC er [v,.ref a,.int z] H (fun v H'=>(qhB K er).kV v H' Q) (fun c _ H'=>(qhB K er).kE c H' Q):=by
 subst hz
 refine ⟨v,a,n,ps,t,st,k,rfl,net,ha,fun h=>⟨er.c2,2,rfl,e2,.inr (.inl rfl),fun H2 s2=>?_⟩,fun h=>⟨qmq N hk,fun j hj _ hl H1 s1=>⟨er.c4,4,rfl,e4,.inr (.inr rfl),fun H2 s2=>?_⟩,fun hall l' H1 s1=>?_⟩⟩
 ·have:=kk H2 s2; rw [qjh (by omega)] at this; exact this
 ·have:=kk H2 (s1.trans s2); rw [qg7 (by omega) hj (by rw [qha N.ht N.few]; exact hl)] at this; exact this
 ·have:=kk H1 s1; rw [qg6 (by omega) fun i _ h2=>by rw [qha N.ht N.few]; exact hall i h2] at this; exact this
theorem qiz {p:List Int × Int}(h:p∈oneM ks):p.2=1:=by
 unfold oneM at h
 obtain ⟨_,_,rfl⟩:=List.mem_map.mp h; rfl
theorem qga {K:PySem.W.Frag}{er:Errs}{v:V}{l:Addr}{H:Hp}{Q:VK}(e2:ErrI K er er.c2 2)(e4:ErrI K er er.c4 4)(N:Nt n ps t)(net:qbc H v n ps t)(sp:SpAt H l (sprF (oneM ks) (qap (oneM ks)).sum))(ne:ks≠[])(nd:ks.Nodup)(ln:∀ k∈ks,k.length=b)(k501:ks.length≤501)(kk:∀ H',Same H H'->Q (.str (dueN n b ps t ks 1)) H'):qd8 er [v,.ref l] H (fun v H'=>(qhB K er).kV v H' Q) (fun c _ H'=>(qhB K er).kE c H' Q):=by
 have vs:(qap (oneM ks)).sum=(ks.length:Int):=qgd _
 have kl:0 < ks.length:=List.length_pos_iff.mpr ne
 refine ⟨v,l,n,b,ps,t,oneM ks,_,rfl,net,sp,fun e=>ne (by simpa [oneM] using e),fun k hk=>ln k (by rw [qaO] at hk; exact hk),fun h=>⟨er.c2,2,rfl,e2,.inr (.inl rfl),fun H2 s2=>?_⟩,fun h=>⟨⟨N.n1,N.n6,N.few,N.p1,N.p40,by rw [qaO]; exact nd,by simpa [oneM] using k501,fun p hp=>by rw [qiz hp]; decide,by omega,by omega,fun p hp=>by rw [qiz hp]; omega,rfl⟩,fun hl H1 s1=>⟨er.c4,4,rfl,e4,.inr (.inr rfl),fun H2 s2=>?_⟩,fun hall l' H1 s1=>?_⟩⟩
 ·have:=kk H2 s2; rw [qjh h] at this; exact this
 ·have:=kk H2 (s1.trans s2); rw [qg7 (j:=0) h (by decide) (by rw [qgz N.ht N.few nd]; exact hl)] at this; exact this
 ·have:=kk H1 s1; rw [qg6 h fun i h1 h2=>by rw [show i=1 by omega,qgz N.ht N.few nd]; exact hall] at this; exact this
end
theorem qlU (l:List Int):sprF (oneM [l]) (qap (oneM [l])).sum=[(l,1)]:=by
 have:rise [l]=[l]:=by simp [rise]
 show sprF [(l,1)] (qap [(l,1)]).sum=_
 unfold sprF
 rw [show qac [(l,1)]=[l] from rfl,this]
 simp only [List.map_cons,List.map_nil]
 rw [qaJ,if_pos rfl]
 show [(l,Rat.divInt 1 (1 + 0))]=_
 congr 2
theorem qfW {n:Nat}{t:Str}(n1:1≤n)(n6:n≤6)(ht:Tie t):Nt n (qbq n) t:=by
 refine ⟨n1,n6,fun q hq=>?_,by simp [qbq]; omega,by simp [qbq]; omega,ht⟩
 obtain ⟨i,hi,rfl⟩:=List.mem_map.mp hq
 have:=List.mem_range.mp hi
 exact ⟨by show (0:Int)≤(i:Int); omega,by show (i:Int) < _; omega,by show (0:Int)≤(i:Int); omega,by show (i:Int) < _; omega⟩
theorem qjt:∀ p∈capS,4≤p.1/\p.1≤6/\p.2≤12:=by decide
theorem dueS0 {n mo:Nat}{t:Str}(ht:Tie t)(h:(n,mo)∈capS):dueN n n (qbq n) t [List.replicate n 0] mo = "told" := by
 have c:=qjs _ h
 have m:=qjt _ h
 dsimp only at m
 have N:=qfW (t:=t) (n:=n) (by omega) m.2.1 ht
 refine qg6 rfl fun i h1 h2=>?_
 rw [qha N.ht N.few,qgq]
 exact c.1 ⟨i,by omega⟩ h2
theorem dueS1 {n mo:Nat}{t:Str}(ht:Tie t)(h:(n,mo)∈capS):dueN n n (qbq n) t [List.replicate n 0] (mo + 1) = "many" := by
 have c:=qjs _ h
 have m:=qjt _ h
 dsimp only at m
 have N:=qfW (t:=t) (n:=n) (by omega) m.2.1 ht
 refine qg7 (j:=mo) rfl (by omega) ?_
 rw [qha N.ht N.few,qgq]
 exact c.2
def litC:List (Int × Int):=[(6,6),(5,8),(4,12)]
theorem ql7:∀ c∈litC,∃ q∈capS,c.1=(q.1:Int)/\c.2=(q.2:Int):=by decide
def litB:List (Int × Int):=[(3,31),(5,9),(6,7),(4,13)]
def capB:List (Nat × Nat):=[(3,31),(5,9),(6,7),(4,13)]
theorem qkq:∀ c∈litB,∃ q∈capB,c.1=(q.1:Int)/\c.2=(q.2:Int):=by decide
theorem qmA:∀ p∈capB,3≤p.1/\p.1≤6/\p.2≤31/\(comps p.1 p.2).length≤1000/\501≤(comps p.1 p.2).length:=by decide +kernel
def Pr2 (H:Hp)(x:V)(c:Int × Int):Prop:=∃ t,x = .ref t/\H t=some (.tup [.int c.1,.int c.2])
theorem qjp (xs:List V)(k:Nat):cutV xs none (some (k:Int))=xs.take k:=by
 unfold cutV
 rw [HT.sIx_nat,HT.sIx_none]
 simp only [List.drop_zero,Nat.sub_zero]
 rcases Nat.le_total k xs.length with h | h
 ·rw [Nat.min_eq_left h]
 ·rw [Nat.min_eq_right h,List.take_length,List.take_of_length_le h]
theorem qip {cs:List Int}{r:Int}(h0:0≤r)(h1:r < cs.length):∃ x∈cs,atI (iv cs) r=some (.int x):=by
 obtain ⟨j,rfl⟩:∃ j:Nat,r=(j:Int):=⟨r.toNat,by omega⟩
 have hj:j < cs.length:=by omega
 exact ⟨cs[j],List.getElem_mem hj,qnJ (List.getElem?_eq_getElem hj)⟩
theorem qfO {H:Hp}{xs:List V}{cs:List (Int × Int)}(h:Paired (Pr2 H) xs cs){r:Int}(h0:0≤r)(h1:r < cs.length):∃ (c:Int × Int) (t:Addr),c∈cs/\atI xs r=some (.ref t)/\H t=some (.tup [.int c.1,.int c.2]):=by
 obtain ⟨j,rfl⟩:∃ j:Nat,r=(j:Int):=⟨r.toNat,by omega⟩
 have hl:=Paired.length h
 have hj:j < xs.length:=by omega
 obtain ⟨c,hc,t,e,ht⟩:=qah h (List.getElem?_eq_getElem hj)
 exact ⟨c,t,List.mem_of_getElem? hc,by rw [qdA (List.getElem?_eq_getElem hj),e],ht⟩
theorem qmT {n:Nat}{ps:List (Int × Int)}{t:Str}(hn:n≤6)(hl:ps.length≤40)(hf:Few n ps)(ht:Tie t):Sm 2000 (netD n ps t):=by
 have h:Sm 300 (.tuple (ps.map dp)):=by
  refine qeP (n:=6) (fun d hd=>?_) (by rw [qck]; rfl) (by decide) (by rw [List.length_map]; omega)
  obtain ⟨p,hpm,rfl⟩:=List.mem_map.mp hd
  have:=hf p hpm
  exact qeP (n:=2) (by simpa using ⟨qid (show I18 p.1 by show p.1.natAbs < _; omega) 2,qid (show I18 p.2 by show p.2.natAbs < _; omega) 2⟩) rfl (by decide) (show 2 * (2 + 1)≤6 by decide)
 have h0:Sm 300 (.int (n:Int)):=qid (show I18 (n:Int) by show (n:Int).natAbs < _; omega) 300
 have h2:Sm 300 (.str t):=by
  rcases ht with rfl | rfl
  ·exact qkV (x := "left") (by decide)
  ·exact qkV (x := "dice") (by decide)
 exact qeP (n:=300) (by simpa using ⟨h0,h,h2⟩) (by simp [PyData.hasDictAll,PyData.hasDict,qck,qa0,lists,qgM]) (by decide) (show 3 * (300 + 1)≤2000 by decide)
theorem ql5 (n:Nat)(ps:List (Int × Int))(t:Str):(netD n ps t).hasDict=false:=by simp [netD,PyData.hasDictAll,PyData.hasDict,qck]
def kpD (n:Nat)(ps:List (Int × Int))(t:Str)(st:List Int):PyData := .tuple [netD n ps t,.tuple (st.map PyData.int)]
theorem ql9 {n:Nat}{ps:List (Int × Int)}{t:Str}{st:List Int}(hn:n≤6)(hl:ps.length≤40)(hf:Few n ps)(ht:Tie t)(h2:st.length≤6)(i2:∀ x∈st,I36 x):Good (kpD n ps t st):=by
 have a2:Sm 2000 (.tuple (st.map PyData.int)):=(qlA (m:=20) i2 (by decide) (by omega)).mono (by decide)
 have g:Sm 8000 (kpD n ps t st):=qeP (n:=2000) (by simpa using ⟨qmT hn hl hf ht,a2⟩) (by simp [PyData.hasDictAll,PyData.hasDict,ql5,qb1]) (by decide) (show 2 * (2000 + 1)≤8000 by decide)
 refine g.good (by decide) ?_
 have:=qg8 ps
 simp only [kpD,netD,PyData.depth,PyData.depthAll,qdW]
 omega
theorem qdg {α β:Type}{R:α->β->Prop}:∀ {xs:List α} {ys:List β} (k:Nat),Paired R xs ys->Paired R (xs.take k) (ys.take k)
 | _,_,0,_=>by rw [List.take_zero,List.take_zero]; exact .nil
 | _,_,k + 1,.nil => .nil
 | _,_,k + 1,.cons h t => .cons h (qdg k t)
theorem bt501 {x:Int}(h0:0≤x)(h:x≤501):Bt 8000 x:=(qnH h0 (Int.le_trans h (by decide +kernel))).mono (by decide)
theorem min6 (n:Nat)(h:1≤n)(h6:n≤6):∃ m:Nat,(if (n:Int) + 1 < 6 then (n:Int) + 1 else 6)=(m:Int)/\1≤m/\m≤6:=by
 by_cases z:(n:Int) + 1 < 6
 ·rw [if_pos z]; exact ⟨n + 1,rfl,Nat.le_add_left _ _,by omega⟩
 ·rw [if_neg z]; exact ⟨6,rfl,by decide,by decide⟩
theorem qil (k:Nat)(x:V):(List.replicate k [x]).flatten=List.replicate k x:=by
 induction k with
 | zero=>rfl
 | succ k ih=>rw [List.replicate_succ,List.flatten_cons,ih]; rfl
theorem qnj {σ:St}{H:Hp}{R:List V->Hp->Prop}(h:R [] H):tNil σ H R:=h
theorem qnD {v:V}{σ:St}{H:Hp}{R:List V->Hp->Prop}(h:R [v] H):qls (tC v) tNil σ H R:=h
section
variable {P:Program}{w:World}{K:PySem.W.Frag}{mg:Str->Option Value}{base:Heap}
theorem qlX {er:Errs}(T:Txt2 mg)(N:ErrN mg er)(F:FunAt K mg "_law_word" ["_law_ask"] s_l_word):Cal P w K mg base "_law_word" ["_law_ask"] 7 (spH P w K mg base 6 (qhB K er)):=by
 have S:=qeV
 refine F.cal qeV (fun vs H Q E h=>?_) (fun f cdv A outer s H vs Q E hr h=>?_)
 ·obtain ⟨a,o,fd,sp0,rfl,_⟩:=h; rfl
 obtain ⟨a,o,fd,sp0,rfl,ha,hfd,cok,mono,hs⟩:=h
 refine ⟨_,(@pK _ _ _ _ _ (@pZ _ _ (1) _ _ _ _ (by exact S.nd) ⋯ ⋯ qk1 ⋯ ⋯) (@pK _ _ _ _ _ (@qj2 _ _ _ _ _ _ _ _ _ _ (2) _ _ (by exact qkJ) (by exact S.nd) ⋯ ⋯ ⋯ (by exact N.ball) (@qj1 _ _ _ _ (@qj7 _ (0) (6) _ _ _ (by exact (hr.mono (by decide))) ⋯ ⋯ ⋯ ⋯) ⋯) (fun _=>(@pO _ _ _ (@pZ _ _ (1) _ _ _ _ (by exact S.nd) ⋯ ⋯ (pv 2) ⋯ ⋯))) ⋯) (@pK _ _ _ _ _ (@qbj _ _ _ _ _ _ _ _ (@qal _ _ _ _ _ _ _ _ qnb (pv 1) qk1 (by exact (qax _))) (@pO _ _ _ (@qan _ _ _ _ qav)) qaA) (@pK _ _ _ _ _ (@pZ _ _ (3) _ _ _ _ (by exact S.nd) ⋯ ⋯ (@qaG _ _ _ _ (@pC _ _ _ _ _ (@qak _ _ _ _ _ _ _ _ _ qcw ⋯ (by exact T.z_isinstance) (by exact qa2) (@pC _ _ _ _ _ (pv 1) (@pC _ _ _ _ _ (@qbm _ _ (.ref er.c2) _ _ ⋯ (by exact N.m2) ⋯ ⋯) pN ⋯) ⋯) ⋯ ⋯ ⋯ ⋯) (@pC _ _ _ _ _ (@qak _ _ _ _ _ _ _ _ _ qcw ⋯ (by exact T.z_isinstance) (by exact qa2) (@pC _ _ _ _ _ (pv 1) (@pC _ _ _ _ _ (@qbm _ _ (.ref er.c4) _ _ ⋯ (by exact N.m4) ⋯ ⋯) pN ⋯) ⋯) ⋯ ⋯ ⋯ ⋯) (@pC _ _ _ _ _ (@qak _ _ _ _ _ _ _ _ _ qcw ⋯ (by exact T.z_isinstance) (by exact qa2) (@pC _ _ _ _ _ (pv 1) (@pC _ _ _ _ _ (@qbm _ _ (.ref er.c1) _ _ ⋯ (by exact N.m1) ⋯ ⋯) pN ⋯) ⋯) ⋯ ⋯ ⋯ ⋯) pN ⋯) ⋯) ⋯)) ⋯ ⋯) (@pK _ _ _ _ _ (@pZ _ _ (4) _ _ _ _ (by exact S.nd) ⋯ ⋯ (@qak _ _ _ _ _ _ _ _ _ qhJ ⋯ (by exact T.z_isinstance) (by exact qa2) (@pC _ _ _ _ _ (pv 1) (@pC _ _ _ _ _ (@qag _ _ _ _ _ (@pC _ _ _ _ _ (@qbm _ _ (.ref er.c3) _ _ ⋯ (by exact N.m3) ⋯ ⋯) (@pC _ _ _ _ _ (@qbm _ _ (.ref er.c5) _ _ ⋯ (by exact N.m5) ⋯ ⋯) (@pC _ _ _ _ _ (@qbm _ _ (.ref er.c6) _ _ ⋯ (by exact N.m6) ⋯ ⋯) (@pC _ _ _ _ _ (@qbm _ _ (.ref er.c8) _ _ ⋯ (by exact N.m8) ⋯ ⋯) (@pC _ _ _ _ _ (@qbm _ _ (.ref er.c0) _ _ ⋯ (by exact N.m0) ⋯ ⋯) (@pC _ _ _ _ _ (@qbm _ _ (.ref er.c7) _ _ ⋯ (by exact N.m7) ⋯ ⋯) pN ⋯) ⋯) ⋯) ⋯) ⋯) ⋯)) pN ⋯) ⋯) ⋯ ⋯ ⋯ ⋯) ⋯ ⋯) (@pK _ _ _ _ _ (@qbj _ _ _ _ _ _ _ _ (@PW.pt _ _ _ (@qlG _ _ _ _ _ _ _ (@qkZ _ _ _ (pv 4) ⋯) (@qlG _ _ _ _ _ _ _ (@qal _ _ _ _ _ _ _ _ qen (@qiv _ _ _ _ _ _ _ _ _ _ _ _ (by exact PySem.F.plainAttrs_list) (by exact PySem.F.slot_list_count) (by exact PySem.F.type_list_count) qkm (pv 3) (@pC _ _ _ _ _ qe0 pN ⋯) ⋯ ⋯ ⋯ ⋯ ⋯) pI (by exact (qax _))) (@qkY _ _ _ _ (@qm5 _ _ _ _ (@qkZ _ _ _ (@qak _ _ _ _ _ _ _ _ _ qcw ⋯ (by exact T.z_isinstance) (by exact qa2) (@pC _ _ _ _ _ (pv 1) (@pC _ _ _ _ _ (@qlP _ _ (.ty "ValueError") _ _ ⋯ (by exact T.z_ValueError) (by exact qeD) ⋯ ⋯ ⋯) pN ⋯) ⋯) ⋯ ⋯ ⋯ ⋯) ⋯)))))) (@pO _ _ _ (@qan _ _ _ _ qav)) qaA) (@pO _ _ _ (@qan _ _ _ _ (@qaw _ _ _ _ _ _ _ qaQ (@qaG _ _ _ _ (@pC _ _ _ _ _ qav (@pC _ _ _ _ _ qav (@pC _ _ _ _ _ qav pN ⋯) ⋯) ⋯)) (@qiv _ _ _ _ _ _ _ _ _ _ _ _ (by exact PySem.F.plainAttrs_list) (by exact PySem.F.slot_list_index) (by exact PySem.F.type_list_index) qkl (pv 3) (@pC _ _ _ _ _ qe0 pN ⋯) ⋯ ⋯ ⋯ ⋯ ⋯) (by exact (fun _ _=>rfl))))))))))),?_⟩
 refine ⟨a,o,fd,sp0,rfl,ha,hfd,cok,mono _ _ _ _ _ (fun v H1 k=>?_) (fun c d H1 k=>?_) hs⟩
 ·exact ⟨_,rfl,rfl,_,rfl,iteT k⟩
 ·obtain ⟨C,i,rfl,z,hi,k⟩:=k
  refine ⟨C,rfl,z.ball,fun p hp=>?_⟩
  have he:(upd H1 p (excO p C)) p=some (excO p C):=uS
  refine ⟨_,rfl,?_⟩
  refine ⟨_,rfl,rfl,_,rfl,iteF ?_⟩
  have s0:Same H1 (upd H1 p (excO p C)):=sN hp _
  generalize upd H1 p (excO p C)=H2 at he s0
  refine ⟨_,rfl,p,C,_,_,_,rfl,rfl,he,z.ek,z.i2,_,rfl,p,C,_,_,_,rfl,rfl,he,z.ek,z.i4,_,rfl,p,C,_,_,_,rfl,rfl,he,z.ek,z.i1,(by show 3≤sizeLine; decide),fun l1 hl1=>?_⟩
  have h1:(upd H2 l1 (.lst [.bl (decide (i=2)),.bl (decide (i=4)),.bl (decide (i=1))])) l1=_:=uS
  have s1:=s0.trans (sN hl1 (.lst [.bl (decide (i=2)),.bl (decide (i=4)),.bl (decide (i=1))]))
  have he1:=sN hl1 (.lst [.bl (decide (i=2)),.bl (decide (i=4)),.bl (decide (i=1))]) _ _ he
  generalize upd H2 l1 (.lst [.bl (decide (i=2)),.bl (decide (i=4)),.bl (decide (i=1))])=H3 at h1 s1 he1
  refine ⟨_,rfl,(by show 6≤sizeLine; decide),fun t ht=>?_⟩
  have st:=sN ht (.tup [.ref er.c3,.ref er.c5,.ref er.c6,.ref er.c8,.ref er.c0,.ref er.c7])
  refine ⟨p,C,t,[er.c3,er.c5,er.c6,er.c8,er.c0,er.c7],false,rfl,st _ _ he1,z.ek,uS,qhw z hi,?_⟩
  replace h1:=st _ _ h1
  replace s1:=s1.trans st
  replace he1:=st _ _ he1
  generalize upd H3 t (.tup [.ref er.c3,.ref er.c5,.ref er.c6,.ref er.c8,.ref er.c0,.ref er.c7])=H4 at h1 s1 he1
  refine ⟨_,rfl,_,rfl,iteF ?_⟩
  refine ⟨_,rfl,.inl ⟨rfl,_,SqL.of h1⟩,l1,_,_,rfl,rfl,h1,rfl,rfl,rfl,_,rfl,qhz (by rcases hi with rfl | rfl | rfl <;> rfl) ?_⟩
  refine ⟨_,rfl,p,C,_,_,_,rfl,rfl,he1,z.ek,z.ve,_,rfl,iteF ?_⟩
  refine ⟨(by show 3≤sizeLine; decide),fun l6 hl6=>?_⟩
  have s6:=sN hl6 (.lst [.str "unlike",.str "many",.str "ball"])
  have place:∃ j:Nat,j < 3/\eqV (([.bl (decide (i=2)),.bl (decide (i=4)),.bl (decide (i=1))]:List V).getD j .non) (.bl true)=true/\(∀ m,m < j->eqV (([.bl (decide (i=2)),.bl (decide (i=4)),.bl (decide (i=1))]:List V).getD m .non) (.bl true)=false)/\atI ([.str "unlike",.str "many",.str "ball"]:List V) ((j:Nat):Int)=some (.str (wordOf i)):=by
   rcases hi with rfl | rfl | rfl
   ·exact ⟨2,by decide,by decide,by decide,by decide⟩
   ·exact ⟨0,by decide,by decide,by decide,by decide⟩
   ·exact ⟨1,by decide,by decide,by decide,by decide⟩
  obtain ⟨j,j3,ja,jb,jw⟩:=place
  refine ⟨_,rfl,.inl ⟨rfl,_,SqL.of (s6 _ _ h1)⟩,l1,_,_,j,rfl,rfl,s6 _ _ h1,rfl,rfl,j3,ja,jb,l6,_,_,_,rfl,rfl,SqL.of uS,jw,?_⟩
  exact k _ (s1.trans s6)
end
theorem qkA {n0:Nat}(n3:3≤n0){pc:Int × Int}(hpc:pc∈[((0:Int),(0:Int)),((n0:Int) - 1,(n0:Int) - 1),(0,1)]):Few n0 [pc]:=by
 intro q hq
 rw [List.mem_singleton.mp hq]
 simp only [List.mem_cons,List.not_mem_nil,or_false] at hpc
 rcases hpc with rfl | rfl | rfl
 ·exact ⟨by decide,by show (0:Int) < _; omega,by decide,by show (0:Int) < _; omega⟩
 ·exact ⟨by show (0:Int)≤(n0:Int) - 1; omega,by show (n0:Int) - 1 < _; omega,by show (0:Int)≤(n0:Int) - 1; omega,by show (n0:Int) - 1 < _; omega⟩
 ·exact ⟨by decide,by show (0:Int) < _; omega,by decide,by show (1:Int) < _; omega⟩
theorem nt00 {m:Nat}{ti:Str}(h1:1≤m)(h2:m≤6)(hti:Tie ti):Nt m [((0:Int),(0:Int))] ti:=⟨h1,h2,fun q hq=>by
 rw [List.mem_singleton.mp hq]
 exact ⟨by decide,by show (0:Int) < _; omega,by decide,by show (0:Int) < _; omega⟩,by decide,by decide,hti⟩
theorem qiK {r:Int}(h:0≤r):∃ k:Nat,r=(k:Int):=⟨r.toNat,by omega⟩
theorem n16 {r:Int}{n:Nat}(h:1 + r=(n:Int))(h0:0≤r)(h1:r < 6):1≤n/\n≤6:=by omega
theorem qkI {n:Nat}{r5 bb:Int}(n1:1≤n)(n6:n≤6)(r50:0≤r5)(r51:r5 < 6)(hbb:bb∈[(n:Int),1 + r5]):∃ b:Nat,bb=(b:Int)/\1≤b/\b≤6:=by
 simp only [List.mem_cons,List.not_mem_nil,or_false] at hbb
 exact ⟨bb.toNat,by omega,by omega,by omega⟩
theorem qmb {zz:Int}(hzz:zz∈[(500:Int),501,499]):∃ kk:Nat,zz=(kk:Int)/\499≤kk/\kk≤501:=by
 simp only [List.mem_cons,List.not_mem_nil,or_false] at hzz
 exact ⟨zz.toNat,by omega,by omega,by omega⟩
theorem kt_of {mo:Nat}{r2:Int}(h:r2=0\/r2=1)(m12:mo≤12):∃ kt:Nat,(mo:Int) + r2=(kt:Int)/\kt≤14/\(r2=0->kt=mo)/\(r2=1->kt=mo + 1):=⟨((mo:Int) + r2).toNat,by omega,by omega,by omega,by omega⟩
theorem lt_q {a:Nat}(h:a + 400 < 60000)(k:Nat)(hk:k≤400):a + k < 60000:=by omega
theorem qnk {a:Nat}(h:a + 400 < 60000)(k:Nat)(hk:k≤400):a + k < 100000:=by omega
theorem le4 {a b:Nat}(h:a≤4)(hb:4≤b):a≤b:=by omega
theorem low4 {n:Nat}(h:4≤n):1≤n:=by omega
theorem low3 {n:Nat}(h:3≤n):1≤n:=by omega
theorem i36x {st:List Int}{b:Int}(snn:∀ x∈st,0≤x)(hs:st.sum=b)(hb:b≤41):∀ x∈st,I36 x:=fun x hx=>by
 have:=qiN snn hx
 have:=snn x hx
 exact Nat.lt_trans (show x.natAbs < 100 by omega) (by decide)
section
variable {P:Program}{w:World}{K:PySem.W.Frag}{mg:Str->Option Value}{base:Heap}
theorem qng {er:Errs}{c D:Addr}{f:Addr}{fd:FuncData}(T:Txt2 mg)(hm:mg "law" = some (.ref f))(kb:K.In base)(L:qdC mg base "law" c D)(e2:ErrI K er er.c2 2)(e4:ErrI K er er.c4 4)
  (C1_after_on:Cal1 P w K mg base "after_on" ["net", "stand", "many"] 4 (qcC er)) (C1_put_on:Cal1 P w K mg base "put_on" ["net", "spread"] 5 (qd8 er))
  (C_l_pen:Cal P w K mg base "_law_pen" ["_law_script"] 1 (qmR K)) (C_l_draw:Cal P w K mg base "_law_draw" ["_law_pen_here", "_law_many"] 1 qgo) (C_l_net:Cal P w K mg base "_law_net" ["_law_pen_here", "_law_n"] 2 qmS) (C_l_stand:Cal P w K mg base "_law_stand" ["_law_pen_here", "_law_n", "_law_balls"] 2 qgk)
  (C_l_spread:Cal P w K mg base "_law_spread" ["_law_found"] 3 qeN) (C_l_word:Cal P w K mg base "_law_word" ["_law_ask"] 7 (spH P w K mg base 6 (qhB K er))) (C_l_due:Cal P w K mg base "_law_due" ["_law_net_here", "_law_some", "_law_many"] 3 qlz) (C_l_all:Cal P w K mg base "_law_all" ["_law_n", "_law_balls"] 7 (qjU 6))
  (F:Fun K "law" "law" qee f fd):FnOk P w K mg base CX0 9 f fd ["_law_script"] (qgn K D (qLam "law")):=by
 have S:=qkW
 have LB:=L.lb
 refine F.okL hm kb L qkW (fun vs H Q E h=>?_) (fun A outer s H vs Q E hr h=>?_)
 ·obtain ⟨a,ns,rfl,_⟩:=h; rfl
 obtain ⟨a,ns,rfl,hS,h63,hT,k⟩:=h
 have hu3:=qk9 hr
 refine ⟨_,(@pK _ _ _ _ _ (@pZ _ _ (1) _ _ _ _ (by exact S.nd) ⋯ ⋯ (@cc _ _ _ _ _ _ _ _ _ _ (by exact C_l_pen) (by exact (hr.mono (by decide))) (@pC _ _ _ _ _ (pv 0) pN ⋯) ⋯ ⋯ ⋯ ⋯) ⋯ ⋯) (@pK _ _ _ _ _ (@pZ _ _ (2) _ _ _ _ (by exact S.nd) ⋯ ⋯ (@qaw _ _ _ _ _ _ _ qaQ (@qaG _ _ _ _ (@pC _ _ _ _ _ qav (@pC _ _ _ _ _ qav pN ⋯) ⋯)) (@cc _ _ _ _ _ _ _ _ _ _ (by exact C_l_draw) (by exact (hr.mono (by decide))) (@pC _ _ _ _ _ (pv 1) (@pC _ _ _ _ _ pI pN ⋯) ⋯) ⋯ ⋯ ⋯ ⋯) (by exact (fun _ _=>rfl))) ⋯ ⋯) (@pK _ _ _ _ _ (@qgD _ _ _ _ _ _ (@qaw _ _ _ _ _ _ _ qaQ (@qaG _ _ _ _ (@pC _ _ _ _ _ (@qag _ _ _ _ _ (@pC _ _ _ _ _ pI (@pC _ _ _ _ _ pI pN ⋯) ⋯)) (@pC _ _ _ _ _ (@qag _ _ _ _ _ (@pC _ _ _ _ _ pI (@pC _ _ _ _ _ pI pN ⋯) ⋯)) (@pC _ _ _ _ _ (@qag _ _ _ _ _ (@pC _ _ _ _ _ pI (@pC _ _ _ _ _ pI pN ⋯) ⋯)) pN ⋯) ⋯) ⋯)) (@cc _ _ _ _ _ _ _ _ _ _ (by exact C_l_draw) (by exact (hr.mono (by decide))) (@pC _ _ _ _ _ (pv 1) (@pC _ _ _ _ _ pI pN ⋯) ⋯) ⋯ ⋯ ⋯ ⋯) (by exact (fun _ _=>rfl))) (@qcT _ _ _ _ _ _ ⋯ (@qaf _ _ _ _ _ (@pG _ _ (5) _ (by exact S.nd) ⋯ ⋯ ⋯) (@qaf _ _ _ _ _ (@pG _ _ (6) _ (by exact S.nd) ⋯ ⋯ ⋯) qaX ⋯) ⋯) ⋯ ⋯) ⋯ ⋯ ⋯) (@pK _ _ _ _ _ (@pZ _ _ (3) _ _ _ _ (by exact S.nd) ⋯ ⋯ (@cc _ _ _ _ _ _ _ _ _ _ (by exact C_l_draw) (by exact (hr.mono (by decide))) (@pC _ _ _ _ _ (pv 1) (@pC _ _ _ _ _ pI pN ⋯) ⋯) ⋯ ⋯ ⋯ ⋯) ⋯ ⋯) (@pK _ _ _ _ _ (@qbj _ _ _ _ _ _ _ _ (@qal _ _ _ _ _ _ _ _ qho (pv 3) pI (by exact (qax _))) (@pK _ _ _ _ _ (@pZ _ _ (7) _ _ _ _ (by exact S.nd) ⋯ ⋯ (@qag _ _ _ _ _ (@pC _ _ _ _ _ (pv 5) (@pC _ _ _ _ _ (@qbv _ _ _ _ _ _ _ _ _ qbA ⋯ (by exact T.z_tuple) (by exact qeC) (@pC _ _ _ _ _ (@qej _ _ _ _ _ _ _ _ _ _ _ (["_law_box"]) (fun _=>[none]) ⋯ (by exact (fun _ _ h=>h)) (by decide +kernel) ⋯ (by decide +kernel) (by decide +kernel) (by exact Sees.none1) (@qbl _ _ _ _ _ _ ⋯ (by exact T.z_range) (@pC _ _ _ _ _ (pv 5) pN ⋯) ⋯) (fun _ _ _ _ _ => @pG _ _ (0) _ (by exact (show (["_law_box"]:List Str).Nodup by decide +kernel)) ⋯ ⋯ ⋯) (fun _ _ _ _ _=>qbi) (fun _ _ _ _ _=>(@qag _ _ _ _ _ (@pC _ _ _ _ _ (pv 0) (@pC _ _ _ _ _ (pv 0) pN ⋯) ⋯))) ⋯) pN ⋯) ⋯ ⋯ ⋯ ⋯) (@pC _ _ _ _ _ (pv 2) pN ⋯) ⋯) ⋯)) ⋯ ⋯) (@pO _ _ _ (@qbj _ _ _ _ _ _ _ _ (@qal _ _ _ _ _ _ _ _ qen (@qbP _ _ _ _ _ _ _ _ _ _ _ _ _ _ _ _ _ _ (by exact C_l_word) (by exact (hr.mono (by decide))) (by exact LB) ⋯ ⋯ (by exact (fun _=>rfl)) ⋯ ⋯ ⋯ ⋯ (by decide +kernel) (by exact qbH rfl) (by exact Sees.frees [] [("_law_net_here",7),("_law_n",5),("_law_most",6),("_law_more",3)] (qaI ⟨rfl,rfl⟩ (qaI ⟨rfl,rfl⟩ (qaI ⟨rfl,rfl⟩ (qaI ⟨rfl,rfl⟩ qbJ))))) (by exact (fun _ _ _ _=>rfl)) (fun _ _ _ _ _ _ _ _ hrl=>(@cc1 _ _ _ _ _ _ _ _ _ _ _ (by exact qek) (by exact C1_after_on) (by exact (hrl.mono (by decide))) (@pC _ _ _ _ _ (pv 0) (@pC _ _ _ _ _ (@pP _ _ _ _ _ _ _ _ qlS (@qag _ _ _ _ _ (@pC _ _ _ _ _ pI pN ⋯)) (pv 1)) (@pC _ _ _ _ _ (@pP _ _ _ _ _ _ _ _ qaP (pv 2) (pv 3)) pN ⋯) ⋯) ⋯) ⋯ ⋯ ⋯ ⋯)) ⋯ ⋯ ⋯ ⋯) (@qaw _ _ _ _ _ _ _ qaQ (@qaG _ _ _ _ (@pC _ _ _ _ _ qav (@pC _ _ _ _ _ qav pN ⋯) ⋯)) (pv 3) (by exact (fun _ _=>rfl))) (by exact (qax _))) (@pO _ _ _ (@qan _ _ _ _ qe0)) qaA))) qaA) (@pK _ _ _ _ _ (@qbj _ _ _ _ _ _ _ _ (@qal _ _ _ _ _ _ _ _ qfS (@cc _ _ _ _ _ _ _ _ _ _ (by exact C_l_draw) (by exact (hr.mono (by decide))) (@pC _ _ _ _ _ (pv 1) (@pC _ _ _ _ _ pI pN ⋯) ⋯) ⋯ ⋯ ⋯ ⋯) pI (by exact (qax _))) (@pK _ _ _ _ _ (@qgD _ _ _ _ _ _ (@qaw _ _ _ _ _ _ _ qaQ (@qaG _ _ _ _ (@pC _ _ _ _ _ (@qag _ _ _ _ _ (@pC _ _ _ _ _ pI (@pC _ _ _ _ _ pI pN ⋯) ⋯)) (@pC _ _ _ _ _ (@qag _ _ _ _ _ (@pC _ _ _ _ _ pI (@pC _ _ _ _ _ pI pN ⋯) ⋯)) (@pC _ _ _ _ _ (@qag _ _ _ _ _ (@pC _ _ _ _ _ pI (@pC _ _ _ _ _ pI pN ⋯) ⋯)) (@pC _ _ _ _ _ (@qag _ _ _ _ _ (@pC _ _ _ _ _ pI (@pC _ _ _ _ _ pI pN ⋯) ⋯)) pN ⋯) ⋯) ⋯) ⋯)) (@cc _ _ _ _ _ _ _ _ _ _ (by exact C_l_draw) (by exact (hr.mono (by decide))) (@pC _ _ _ _ _ (pv 1) (@pC _ _ _ _ _ pI pN ⋯) ⋯) ⋯ ⋯ ⋯ ⋯) (by exact (fun _ _=>rfl))) (@qcT _ _ _ _ _ _ ⋯ (@qaf _ _ _ _ _ (@pG _ _ (5) _ (by exact S.nd) ⋯ ⋯ ⋯) (@qaf _ _ _ _ _ (@pG _ _ (15) _ (by exact S.nd) ⋯ ⋯ ⋯) qaX ⋯) ⋯) ⋯ ⋯) ⋯ ⋯ ⋯) (@pK _ _ _ _ _ (@pZ _ _ (8) _ _ _ _ (by exact S.nd) ⋯ ⋯ (@qbO _ _ _ _ _ _ _ _ _ _ qie (@cc _ _ _ _ _ _ _ _ _ _ (by exact C_l_all) (by exact (hr.mono (by decide))) (@pC _ _ _ _ _ (pv 5) (@pC _ _ _ _ _ (pv 15) pN ⋯) ⋯) ⋯ ⋯ ⋯ ⋯) qcE (@qcD _ _ _ (@qaw _ _ _ _ _ _ _ qaQ (@qaG _ _ _ _ (@pC _ _ _ _ _ pI (@pC _ _ _ _ _ pI (@pC _ _ _ _ _ pI pN ⋯) ⋯) ⋯)) (@cc _ _ _ _ _ _ _ _ _ _ (by exact C_l_draw) (by exact (hr.mono (by decide))) (@pC _ _ _ _ _ (pv 1) (@pC _ _ _ _ _ pI pN ⋯) ⋯) ⋯ ⋯ ⋯ ⋯) (by exact (fun _ _=>rfl))))) ⋯ ⋯) (@pK _ _ _ _ _ (@pZ _ _ (9) _ _ _ _ (by exact S.nd) ⋯ ⋯ (@cc _ _ _ _ _ _ _ _ _ _ (by exact C_l_spread) (by exact (hr.mono (by decide))) (@pC _ _ _ _ _ (@qbv _ _ _ _ _ _ _ _ _ (qd0 ⋯ hu3) ⋯ (by exact T.z_dict) (by exact qjC) (@pC _ _ _ _ _ (@qej _ _ _ _ _ _ _ _ _ _ _ (["_law_stand_here"]) (fun _=>[none]) ⋯ (by exact (fun _ _ h=>h)) (by decide +kernel) ⋯ (by decide +kernel) (by decide +kernel) (by exact Sees.none1) (@qa5 _ _ _ _ (pv 8)) (fun _ _ _ _ _ => @pG _ _ (0) _ (by exact (show (["_law_stand_here"]:List Str).Nodup by decide +kernel)) ⋯ ⋯ ⋯) (fun _ _ _ _ _=>qbi) (fun _ _ _ _ _=>(@qag _ _ _ _ _ (@pC _ _ _ _ _ (pv 0) (@pC _ _ _ _ _ pI pN ⋯) ⋯))) ⋯) pN ⋯) ⋯ ⋯ ⋯ ⋯) pN ⋯) ⋯ ⋯ ⋯ ⋯) ⋯ ⋯) (@pK _ _ _ _ _ (@pZ _ _ (7) _ _ _ _ (by exact S.nd) ⋯ ⋯ (@qag _ _ _ _ _ (@pC _ _ _ _ _ (pv 5) (@pC _ _ _ _ _ (@qag _ _ _ _ _ (@pC _ _ _ _ _ (@qaw _ _ _ _ _ _ _ qaQ (@qaG _ _ _ _ (@pC _ _ _ _ _ (@qag _ _ _ _ _ (@pC _ _ _ _ _ pI (@pC _ _ _ _ _ pI pN ⋯) ⋯)) (@pC _ _ _ _ _ (@qag _ _ _ _ _ (@pC _ _ _ _ _ (@pP _ _ _ _ _ _ _ _ qe3 (pv 5) pI) (@pC _ _ _ _ _ (@pP _ _ _ _ _ _ _ _ qe3 (pv 5) pI) pN ⋯) ⋯)) (@pC _ _ _ _ _ (@qag _ _ _ _ _ (@pC _ _ _ _ _ pI (@pC _ _ _ _ _ pI pN ⋯) ⋯)) pN ⋯) ⋯) ⋯)) (@cc _ _ _ _ _ _ _ _ _ _ (by exact C_l_draw) (by exact (hr.mono (by decide))) (@pC _ _ _ _ _ (pv 1) (@pC _ _ _ _ _ pI pN ⋯) ⋯) ⋯ ⋯ ⋯ ⋯) (by exact (fun _ _=>rfl))) pN ⋯)) (@pC _ _ _ _ _ (pv 2) pN ⋯) ⋯) ⋯)) ⋯ ⋯) (@pO _ _ _ (@qbd _ _ _ _ _ _ _ _ (by exact PassesOwn.never) ⋯ (@qgE _ _ _ _ (@qag _ _ _ _ _ (@pC _ _ _ _ _ (pv 7) (@pC _ _ _ _ _ (@qag _ _ _ _ _ (@pC _ _ _ _ _ (@pP _ _ _ _ _ _ _ _ qe3 (pv 5) pI) (@pC _ _ _ _ _ (@qag _ _ _ _ _ (@pC _ _ _ _ _ (@qag _ _ _ _ _ (@pC _ _ _ _ _ pI (@pC _ _ _ _ _ pI pN ⋯) ⋯)) pN ⋯)) (@pC _ _ _ _ _ (pv 2) pN ⋯) ⋯) ⋯)) (@pC _ _ _ _ _ (@qag _ _ _ _ _ (@pC _ _ _ _ _ (@qak _ _ _ _ _ _ _ _ _ (qjv ⋯) ⋯ (by exact T.z_min) (by exact qnG) (@pC _ _ _ _ _ pI (@pC _ _ _ _ _ (@pP _ _ _ _ _ _ _ _ qaP (pv 5) pI) pN ⋯) ⋯) ⋯ ⋯ ⋯ ⋯) (@pC _ _ _ _ _ (@qag _ _ _ _ _ (@pC _ _ _ _ _ (@qag _ _ _ _ _ (@pC _ _ _ _ _ pI (@pC _ _ _ _ _ pI pN ⋯) ⋯)) pN ⋯)) (@pC _ _ _ _ _ (pv 2) pN ⋯) ⋯) ⋯)) pN ⋯) ⋯) ⋯))) (@pG _ _ (10) _ (by exact S.nd) ⋯ ⋯ ⋯) (@pO _ _ _ (@qbj _ _ _ _ _ _ _ _ (@qal _ _ _ _ _ _ _ _ qen (@qbP _ _ _ _ _ _ _ _ _ _ _ _ _ _ _ _ _ _ (by exact C_l_word) (by exact (hr.mono (by decide))) (by exact LB) ⋯ ⋯ (by exact (fun _=>rfl)) ⋯ ⋯ ⋯ ⋯ (by decide +kernel) (by exact qbH rfl) (by exact Sees.frees [] [("_law_other",10),("_law_spread_here",9)] (qaI ⟨rfl,rfl⟩ (qaI ⟨rfl,rfl⟩ qbJ))) (by exact (fun _ _ _ _=>rfl)) (fun _ _ _ _ _ _ _ _ hrl=>(@cc1 _ _ _ _ _ _ _ _ _ _ _ (by exact qek) (by exact C1_put_on) (by exact (hrl.mono (by decide))) (@pC _ _ _ _ _ (pv 0) (@pC _ _ _ _ _ (pv 1) pN ⋯) ⋯) ⋯ ⋯ ⋯ ⋯)) ⋯ ⋯ ⋯ ⋯) (@cc _ _ _ _ _ _ _ _ _ _ (by exact C_l_due) (by exact (hr.mono (by decide))) (@pC _ _ _ _ _ (pv 10) (@pC _ _ _ _ _ (pv 8) (@pC _ _ _ _ _ pI pN ⋯) ⋯) ⋯) ⋯ ⋯ ⋯ ⋯) (by exact (qax _))) (@pO _ _ _ (@qan _ _ _ _ qe0)) qaA)) ⋯)))))) qaA) (@pK _ _ _ _ _ (@qbd _ _ _ _ _ _ _ _ (by exact PassesOwn.never) ⋯ (@qbl _ _ _ _ _ _ ⋯ (by exact T.z_range) (@pC _ _ _ _ _ pI pN ⋯) ⋯) (@pG _ _ (4) _ (by exact S.nd) ⋯ ⋯ ⋯) (@pK _ _ _ _ _ (@pZ _ _ (5) _ _ _ _ (by exact S.nd) ⋯ ⋯ (@pP _ _ _ _ _ _ _ _ qaP pI (@cc _ _ _ _ _ _ _ _ _ _ (by exact C_l_draw) (by exact (hr.mono (by decide))) (@pC _ _ _ _ _ (pv 1) (@pC _ _ _ _ _ pI pN ⋯) ⋯) ⋯ ⋯ ⋯ ⋯)) ⋯ ⋯) (@pK _ _ _ _ _ (@pZ _ _ (7) _ _ _ _ (by exact S.nd) ⋯ ⋯ (@cc _ _ _ _ _ _ _ _ _ _ (by exact C_l_net) (by exact (hr.mono (by decide))) (@pC _ _ _ _ _ (pv 1) (@pC _ _ _ _ _ (pv 5) pN ⋯) ⋯) ⋯ ⋯ ⋯ ⋯) ⋯ ⋯) (@pK _ _ _ _ _ (@pZ _ _ (11) _ _ _ _ (by exact S.nd) ⋯ ⋯ (@qaw _ _ _ _ _ _ _ qaQ (@qaG _ _ _ _ (@pC _ _ _ _ _ (pv 5) (@pC _ _ _ _ _ (@pP _ _ _ _ _ _ _ _ qaP pI (@cc _ _ _ _ _ _ _ _ _ _ (by exact C_l_draw) (by exact (hr.mono (by decide))) (@pC _ _ _ _ _ (pv 1) (@pC _ _ _ _ _ pI pN ⋯) ⋯) ⋯ ⋯ ⋯ ⋯)) pN ⋯) ⋯)) (@cc _ _ _ _ _ _ _ _ _ _ (by exact C_l_draw) (by exact (hr.mono (by decide))) (@pC _ _ _ _ _ (pv 1) (@pC _ _ _ _ _ pI pN ⋯) ⋯) ⋯ ⋯ ⋯ ⋯) (by exact (fun _ _=>rfl))) ⋯ ⋯) (@pK _ _ _ _ _ (@pZ _ _ (12) _ _ _ _ (by exact S.nd) ⋯ ⋯ (@cc _ _ _ _ _ _ _ _ _ _ (by exact C_l_stand) (by exact (hr.mono (by decide))) (@pC _ _ _ _ _ (pv 1) (@pC _ _ _ _ _ (pv 11) (@pC _ _ _ _ _ (@cc _ _ _ _ _ _ _ _ _ _ (by exact C_l_draw) (by exact (hr.mono (by decide))) (@pC _ _ _ _ _ (pv 1) (@pC _ _ _ _ _ pI pN ⋯) ⋯) ⋯ ⋯ ⋯ ⋯) pN ⋯) ⋯) ⋯) ⋯ ⋯ ⋯ ⋯) ⋯ ⋯) (@pK _ _ _ _ _ (@pZ _ _ (13) _ _ _ _ (by exact S.nd) ⋯ ⋯ (@qak _ _ _ _ _ _ _ _ _ (qfo hr) ⋯ (by exact T.z_repr) (by exact qjB) (@pC _ _ _ _ _ (@qag _ _ _ _ _ (@pC _ _ _ _ _ (pv 7) (@pC _ _ _ _ _ (pv 12) pN ⋯) ⋯)) pN ⋯) ⋯ ⋯ ⋯ ⋯) ⋯ ⋯) (@pK _ _ _ _ _ (@qbd _ _ _ _ _ _ _ _ (by exact PassesOwn.never) ⋯ (@qgE _ _ _ _ (@qag _ _ _ _ _ (@pC _ _ _ _ _ pI (@pC _ _ _ _ _ pI (@pC _ _ _ _ _ (@cc _ _ _ _ _ _ _ _ _ _ (by exact C_l_draw) (by exact (hr.mono (by decide))) (@pC _ _ _ _ _ (pv 1) (@pC _ _ _ _ _ pI pN ⋯) ⋯) ⋯ ⋯ ⋯ ⋯) pN ⋯) ⋯) ⋯))) (@pG _ _ (14) _ (by exact S.nd) ⋯ ⋯ ⋯) (@pO _ _ _ (@qbj _ _ _ _ _ _ _ _ (@qal _ _ _ _ _ _ _ _ qen (@qbP _ _ _ _ _ _ _ _ _ _ _ _ _ _ _ _ _ _ (by exact C_l_word) (by exact (hr.mono (by decide))) (by exact LB) ⋯ ⋯ (by exact (fun _=>rfl)) ⋯ ⋯ ⋯ ⋯ (by decide +kernel) (by exact qbH rfl) (by exact Sees.frees [] [("_law_net_here",7),("_law_stand_here",12),("_law_k",14)] (qaI ⟨rfl,rfl⟩ (qaI ⟨rfl,rfl⟩ (qaI ⟨rfl,rfl⟩ qbJ)))) (by exact (fun _ _ _ _=>rfl)) (fun _ _ _ _ _ _ _ _ hrl=>(@cc1 _ _ _ _ _ _ _ _ _ _ _ (by exact qek) (by exact C1_after_on) (by exact (hrl.mono (by decide))) (@pC _ _ _ _ _ (pv 0) (@pC _ _ _ _ _ (pv 1) (@pC _ _ _ _ _ (pv 2) pN ⋯) ⋯) ⋯) ⋯ ⋯ ⋯ ⋯)) ⋯ ⋯ ⋯ ⋯) (@cc _ _ _ _ _ _ _ _ _ _ (by exact C_l_due) (by exact (hr.mono (by decide))) (@pC _ _ _ _ _ (pv 7) (@pC _ _ _ _ _ (@qaG _ _ _ _ (@pC _ _ _ _ _ (pv 12) pN ⋯)) (@pC _ _ _ _ _ (pv 14) pN ⋯) ⋯) ⋯) ⋯ ⋯ ⋯ ⋯) (by exact (qax _))) (@pO _ _ _ (@qan _ _ _ _ qe0)) qaA)) ⋯) (@pK _ _ _ _ _ (@qbj _ _ _ _ _ _ _ _ (@qal _ _ _ _ _ _ _ _ qen (@qbP _ _ _ _ _ _ _ _ _ _ _ _ _ _ _ _ _ _ (by exact C_l_word) (by exact (hr.mono (by decide))) (by exact LB) ⋯ ⋯ (by exact (fun _=>rfl)) ⋯ ⋯ ⋯ ⋯ (by decide +kernel) (by exact qbH rfl) (by exact Sees.frees [] [("_law_net_here",7),("_law_stand_here",12)] (qaI ⟨rfl,rfl⟩ (qaI ⟨rfl,rfl⟩ qbJ))) (by exact (fun _ _ _ _=>rfl)) (fun _ _ _ _ _ _ _ _ hrl=>(@cc1 _ _ _ _ _ _ _ _ _ _ _ (by exact qek) (by exact C1_put_on) (by exact (hrl.mono (by decide))) (@pC _ _ _ _ _ (pv 0) (@pC _ _ _ _ _ (@qaG _ _ _ _ (@pC _ _ _ _ _ (@qag _ _ _ _ _ (@pC _ _ _ _ _ (pv 1) (@pC _ _ _ _ _ (@qag _ _ _ _ _ (@pC _ _ _ _ _ pI (@pC _ _ _ _ _ pI pN ⋯) ⋯)) pN ⋯) ⋯)) pN ⋯)) pN ⋯) ⋯) ⋯ ⋯ ⋯ ⋯)) ⋯ ⋯ ⋯ ⋯) (@cc _ _ _ _ _ _ _ _ _ _ (by exact C_l_due) (by exact (hr.mono (by decide))) (@pC _ _ _ _ _ (pv 7) (@pC _ _ _ _ _ (@qaG _ _ _ _ (@pC _ _ _ _ _ (pv 12) pN ⋯)) (@pC _ _ _ _ _ pI pN ⋯) ⋯) ⋯) ⋯ ⋯ ⋯ ⋯) (by exact (qax _))) (@pO _ _ _ (@qan _ _ _ _ qe0)) qaA) (@pO _ _ _ (@qbj _ _ _ _ _ _ _ _ (@qal _ _ _ _ _ _ _ _ qen (@qak _ _ _ _ _ _ _ _ _ (qfo hr) ⋯ (by exact T.z_repr) (by exact qjB) (@pC _ _ _ _ _ (@qag _ _ _ _ _ (@pC _ _ _ _ _ (pv 7) (@pC _ _ _ _ _ (pv 12) pN ⋯) ⋯)) pN ⋯) ⋯ ⋯ ⋯ ⋯) (pv 13) (by exact (qax _))) (@pO _ _ _ (@qan _ _ _ _ qe0)) qaA))))))))) ⋯) (@pO _ _ _ (@qan _ _ _ _ qe0))))))))),?_⟩
 refine ⟨_,rfl,a,ns,rfl,hS,fun p H0 s0 pen0=>?_⟩
 refine ⟨lz 2 rfl,fun l0 hl0=>?_⟩
 have s_A0:=sN hl0 (.lst [.str "left",.str "dice"])
 have g_l0:upd H0 l0 (.lst [.str "left",.str "dice"]) l0=some (.lst [.str "left",.str "dice"]):=uS
 generalize upd H0 l0 (.lst [.str "left",.str "dice"])=A0 at s_A0 g_l0 ⊢
 have pen00:=pen0.same s_A0
 refine ⟨_,rfl,p,_,_,rfl,pen00,by decide,by decide,by decide,fun r0 H1 r00 r01 pen1 x1=>?_⟩
 obtain ⟨ti,hti,hat0⟩:=qgg r00 r01
 refine ⟨l0,_,_,_,rfl,rfl,SqL.of (pen00.keep x1 g_l0),hat0,?_⟩
 refine gN_ ?_
 have hD1:=pen00.keep x1 (s_A0 _ _ (s0 _ _ hT))
 refine ⟨lz 2 rfl,fun t0 ht0=>?_⟩
 have s_A1:=sN ht0 (.tup [.int 6,.int 6])
 have g_t0:upd H1 t0 (.tup [.int 6,.int 6]) t0=some (.tup [.int 6,.int 6]):=uS
 generalize upd H1 t0 (.tup [.int 6,.int 6])=A1 at s_A1 g_t0 ⊢
 refine ⟨lz 2 rfl,fun t1 ht1=>?_⟩
 have s_A2:=sN ht1 (.tup [.int 5,.int 8])
 have g_t1:upd A1 t1 (.tup [.int 5,.int 8]) t1=some (.tup [.int 5,.int 8]):=uS
 generalize upd A1 t1 (.tup [.int 5,.int 8])=A2 at s_A2 g_t1 ⊢
 refine ⟨lz 2 rfl,fun t2 ht2=>?_⟩
 have s_A3:=sN ht2 (.tup [.int 4,.int 12])
 have g_t2:upd A2 t2 (.tup [.int 4,.int 12]) t2=some (.tup [.int 4,.int 12]):=uS
 generalize upd A2 t2 (.tup [.int 4,.int 12])=A3 at s_A3 g_t2 ⊢
 refine ⟨lz 3 rfl,fun l hl=>?_⟩
 have s_A4:=sN hl (.lst [.ref t0,.ref t1,.ref t2])
 have g_l:upd A3 l (.lst [.ref t0,.ref t1,.ref t2]) l=some (.lst [.ref t0,.ref t1,.ref t2]):=uS
 generalize upd A3 l (.lst [.ref t0,.ref t1,.ref t2])=A4 at s_A4 g_l ⊢
 have sA:Same H1 A4:=s_A1.trans (s_A2.trans (s_A3.trans s_A4))
 have g_t0:=(s_A2.trans (s_A3.trans s_A4)) _ _ g_t0
 have g_t1:=(s_A3.trans s_A4) _ _ g_t1
 have g_t2:=(s_A4) _ _ g_t2
 have pr2:Paired (Pr2 A4) [.ref t0,.ref t1,.ref t2] litC := .cons ⟨t0,rfl,g_t0⟩ (.cons ⟨t1,rfl,g_t1⟩ (.cons ⟨t2,rfl,g_t2⟩ .nil))
 have penA:=pen1.same sA
 have hDA:=sA _ _ hD1
 refine ⟨_,rfl,p,_,_,rfl,penA,by decide,by decide,by decide,fun r1 H2 r10 r11 pen2 x2=>?_⟩
 obtain ⟨cc,t,hc,hat,htc⟩:=qfO pr2 r10 r11
 obtain ⟨⟨n0,mo⟩,hq,ee1,ee2⟩:=ql7 cc hc
 rw [ee1,ee2] at htc
 dsimp only at htc
 have hD2:=penA.keep x2 hDA
 refine ⟨l,_,_,_,rfl,rfl,SqL.of (penA.keep x2 g_l),hat,t,_,rfl,SqT.of (penA.keep x2 htc),rfl,_,_,rfl,_,_,rfl,rfl,?_⟩
 refine ⟨_,rfl,p,_,_,rfl,pen2,by decide,by decide,by decide,fun r2 H3 r20 r21 pen3 x3=>?_⟩
 have hD3:=pen2.keep x3 hD2
 refine gN_ ?_
 clear x1 x2 x3 pen0 pen00 pen1 pen2 penA hD1 hDA hD2 g_l g_l0 g_t0 g_t1 g_t2 pr2 htc
 dsimp only
 refine seqJ (fun σ' h=>(∃ o3 o4 o5 o6 o7 o8 o9 o10 o11 o12 o13 o14 o15,σ'=[some (.ref a),some (.ref p),some (.str ti),o3,o4,o5,o6,o7,o8,o9,o10,o11,o12,o13,o14,o15])/\Pen h p 3/\h D=some (.tab (qLam "law"))) ?_ ?_
 ·intro R key
  refine ⟨_,rfl,_,_,rfl,rfl,_,rfl,ite2 (fun c=>?_) (fun c=>?_)⟩
  ·have r2c:r2=0\/r2=1:=by have:r2 < 2:=of_decide_eq_true c; omega
   obtain ⟨n4,n6,m12⟩:=qjt _ hq
   dsimp only at n4 n6 m12
   have N:=qfW (t:=ti) (n:=n0) (low4 n4) n6 hti
   refine ⟨_,rfl,_,rfl,_,rfl,by omega,by omega,qcW (qdH (lo:=0) (n:=(n0:Int).toNat)) (fun q i ys σ' H'=>(∃ o0,σ'=[o0])/\Same H3 H'/\Prs H' ys ((qbq n0).take i)) (by omega) ?_ (fun _ _ _ _ _ _ _=>trivial) ?_ ?_⟩
   ·exact fun q hq=>⟨⟨_,rfl⟩,sN hq _,by rw [List.take_zero]; exact .nil⟩
   ·rintro q i ys σ' H' x H'' hq0 hi hl' ⟨⟨o0,rfl⟩,s',prs⟩ hq' ⟨rfl,rfl⟩ Q1 Q2 h1 h2
    refine gN_ (tT_ (iteT ⟨_,rfl,_,rfl,lz 2 rfl,fun t2 ht2=>?_⟩))
    have s6:=sN ht2 (.tup [.int (0 + (i:Int)),.int (0 + (i:Int))])
    have hp6:=s6 _ _ hq'
    refine h1 _ _ _ hp6 ⟨⟨_,rfl⟩,qa8 hq0 (s'.trans s6) _,?_⟩
    have hi':i < n0:=by have:i < (n0:Int).toNat:=hi; omega
    have tk:(qbq n0)[i]?=some ((i:Int),(i:Int)):=by unfold qbq; rw [List.getElem?_map,List.getElem?_range hi']; rfl
    rw [take_snoc tk]
    refine qaC (Paired.imp' (fun v q ⟨d,e,h⟩=>⟨d,e,tupL hp6 _ _ (s6 _ _ h)⟩) prs) ⟨t2,rfl,?_⟩
    refine tupL hp6 _ _ ?_
    simp only [Int.zero_add]
    exact uS
   ·rintro q ys σ' H5 hq0 ⟨_,s5,prs⟩ hq' hl'
    rw [show (n0:Int).toNat=(qbq n0).length by simp [qbq],List.take_length] at prs
    refine ⟨q,_,rfl,.inl ⟨SqL.of hq',fun tt htt=>?_⟩⟩
    have s_H6:=sN htt (.tup ys)
    have g_tt:upd H5 tt (.tup ys) tt=some (.tup ys):=uS
    generalize upd H5 tt (.tup ys)=H6 at s_H6 g_tt ⊢
    refine ⟨_,rfl,lz 3 rfl,fun nt hnt=>?_⟩
    have s_H7:=sN hnt (.tup [.int (n0:Int),.ref tt,.str ti])
    have g_nt:upd H6 nt (.tup [.int (n0:Int),.ref tt,.str ti]) nt=some (.tup [.int (n0:Int),.ref tt,.str ti]):=uS
    generalize upd H6 nt (.tup [.int (n0:Int),.ref tt,.str ti])=H7 at s_H7 g_nt ⊢
    refine gN_ ?_
    have s57:=s_H6.trans s_H7
    have s37:=s5.trans s57
    have net7:qbc H7 (.ref nt) n0 (qbq n0) ti:=⟨nt,tt,ys,rfl,g_nt,s_H7 _ _ g_tt,Paired.imp' (fun v q ⟨d,e,h⟩=>⟨d,e,s57 _ _ h⟩) prs⟩
    have hD7:=s37 _ _ hD3
    refine ⟨hD7,fun B0 sB0=>?_⟩
    refine ⟨_,rfl,lz 1 rfl,fun u4 hu4=>?_⟩
    have s_B1:=sN hu4 (.tup [.int 0])
    have g_u4:upd B0 u4 (.tup [.int 0]) u4=some (.tup [.int 0]):=uS
    generalize upd B0 u4 (.tup [.int 0])=B1 at s_B1 g_u4 ⊢
    refine ⟨_,rfl,u4,_,_,rfl,rfl,g_u4,by simp,by omega,by omega,by simp,fun e=>absurd e (by omega),fun _ u5 hu5=>?_⟩
    rw [qil,Int.toNat_natCast]
    have s_B2:=sN hu5 (.tup (List.replicate n0 (.int 0)))
    have g_u5:upd B1 u5 (.tup (List.replicate n0 (.int 0))) u5=some (.tup (List.replicate n0 (.int 0))):=uS
    generalize upd B1 u5 (.tup (List.replicate n0 (.int 0)))=B2 at s_B2 g_u5 ⊢
    have gu:B2 u5=some (.tup (iv (List.replicate n0 0))):=by rw [g_u5]; unfold iv; rw [List.map_replicate]
    obtain ⟨kt,ekt,k14,kt0,kt1⟩:=kt_of r2c m12
    refine ⟨_,rfl,_,rfl,_,_,rfl,rfl,qnj ?_⟩
    refine qgb (b:=n0) ekt e2 e4 N (((net7.same sB0).same s_B1).same s_B2) gu (by simp) (by omega) fun B9 s9=>?_
    have dw:dueN n0 n0 (qbq n0) ti [List.replicate n0 0] kt=(if r2=0 then ("told" : Str) else ("many" : Str)):=by
     rcases r2c with rfl | rfl
     ·rw [if_pos rfl,kt0 rfl]; exact dueS0 hti hq
     ·rw [if_neg (by decide),kt1 rfl]; exact dueS1 hti hq
    rw [dw]
    have aw:atI [V.str "told",.str "many"] r2=some (.str (if r2=0 then ("told" : Str) else ("many" : Str))):=by rcases r2c with rfl | rfl <;> rfl
    refine ⟨lz 2 rfl,fun lw hlw=>?_⟩
    have s_BA:=sN hlw (.lst [.str "told",.str "many"])
    have g_lw:upd B9 lw (.lst [.str "told",.str "many"]) lw=some (.lst [.str "told",.str "many"]):=uS
    generalize upd B9 lw (.lst [.str "told",.str "many"])=BA at s_BA g_lw ⊢
    have s3A:Same H3 BA:=s37.trans (sB0.trans (s_B1.trans (s_B2.trans (s9.trans s_BA))))
    refine ⟨_,rfl,lw,_,_,_,rfl,rfl,SqL.of g_lw,aw,rfl,_,rfl,qhz (Eq.refl _) ?_⟩
    exact key _ _ ⟨⟨_,_,_,_,_,_,_,_,_,_,_,_,_,rfl⟩,pen3.same s3A,s3A _ _ hD3⟩
  ·exact key _ _ ⟨⟨_,_,_,_,_,_,_,_,_,_,_,_,_,rfl⟩,pen3,hD3⟩
 rintro σ' HB ⟨⟨o3,o4,o5,o6,o7,o8,o9,o10,o11,o12,o13,o14,o15,rfl⟩,penB,hDB⟩
 clear hD3 pen3 hq
 refine seqJ (fun σ' h=>(∃ o3 o4 o5 o6 o7 o8 o9 o10 o11 o12 o13 o14 o15,σ'=[some (.ref a),some (.ref p),some (.str ti),o3,o4,o5,o6,o7,o8,o9,o10,o11,o12,o13,o14,o15])/\Pen h p 7/\h D=some (.tab (qLam "law"))) ?_ ?_
 ·intro R key
  refine ⟨_,rfl,p,_,_,rfl,penB,by decide,by decide,by decide,fun r3 HC r30 r31 penC xC=>?_⟩
  have hDC:=penB.keep xC hDB
  refine ⟨rfl,_,rfl,ite2 (fun c=>?_) (fun c=>?_)⟩
  ·refine ⟨lz 2 rfl,fun t0 ht0=>?_⟩
   have s_A1:=sN ht0 (.tup [.int 3,.int 31])
   have g_t0:upd HC t0 (.tup [.int 3,.int 31]) t0=some (.tup [.int 3,.int 31]):=uS
   generalize upd HC t0 (.tup [.int 3,.int 31])=A1 at s_A1 g_t0 ⊢
   refine ⟨lz 2 rfl,fun t1 ht1=>?_⟩
   have s_A2:=sN ht1 (.tup [.int 5,.int 9])
   have g_t1:upd A1 t1 (.tup [.int 5,.int 9]) t1=some (.tup [.int 5,.int 9]):=uS
   generalize upd A1 t1 (.tup [.int 5,.int 9])=A2 at s_A2 g_t1 ⊢
   refine ⟨lz 2 rfl,fun t2 ht2=>?_⟩
   have s_A3:=sN ht2 (.tup [.int 6,.int 7])
   have g_t2:upd A2 t2 (.tup [.int 6,.int 7]) t2=some (.tup [.int 6,.int 7]):=uS
   generalize upd A2 t2 (.tup [.int 6,.int 7])=A3 at s_A3 g_t2 ⊢
   refine ⟨lz 2 rfl,fun t3 ht3=>?_⟩
   have s_A4:=sN ht3 (.tup [.int 4,.int 13])
   have g_t3:upd A3 t3 (.tup [.int 4,.int 13]) t3=some (.tup [.int 4,.int 13]):=uS
   generalize upd A3 t3 (.tup [.int 4,.int 13])=A4 at s_A4 g_t3 ⊢
   refine ⟨lz 4 rfl,fun l hl=>?_⟩
   have s_A5:=sN hl (.lst [.ref t0,.ref t1,.ref t2,.ref t3])
   have g_l:upd A4 l (.lst [.ref t0,.ref t1,.ref t2,.ref t3]) l=some (.lst [.ref t0,.ref t1,.ref t2,.ref t3]):=uS
   generalize upd A4 l (.lst [.ref t0,.ref t1,.ref t2,.ref t3])=A5 at s_A5 g_l ⊢
   have sA:Same HC A5:=s_A1.trans (s_A2.trans (s_A3.trans (s_A4.trans s_A5)))
   have g_t0:=(s_A2.trans (s_A3.trans (s_A4.trans s_A5))) _ _ g_t0
   have g_t1:=(s_A3.trans (s_A4.trans s_A5)) _ _ g_t1
   have g_t2:=(s_A4.trans s_A5) _ _ g_t2
   have g_t3:=(s_A5) _ _ g_t3
   have pr2:Paired (Pr2 A5) [.ref t0,.ref t1,.ref t2,.ref t3] litB := .cons ⟨t0,rfl,g_t0⟩ (.cons ⟨t1,rfl,g_t1⟩ (.cons ⟨t2,rfl,g_t2⟩ (.cons ⟨t3,rfl,g_t3⟩ .nil)))
   have penA:=penC.same sA
   have hDA:=sA _ _ hDC
   refine ⟨_,rfl,p,_,_,rfl,penA,by decide,by decide,by decide,fun r4 H2 r40 r41 pen2 x2=>?_⟩
   obtain ⟨cc,t,hc,hat,htc⟩:=qfO pr2 r40 r41
   obtain ⟨⟨n0,b0⟩,hq,ee1,ee2⟩:=qkq cc hc
   rw [ee1,ee2] at htc
   dsimp only at htc
   have hD2:=penA.keep x2 hDA
   refine ⟨l,_,_,_,rfl,rfl,SqL.of (penA.keep x2 g_l),hat,t,_,rfl,SqT.of (penA.keep x2 htc),rfl,_,_,rfl,_,_,rfl,rfl,?_⟩
   obtain ⟨n3,n6,b31,cle,cge⟩:=qmA _ hq
   dsimp only at n3 n6 b31 cle cge
   refine ⟨_,rfl,_,rfl,n0,b0,rfl,low3 n3,n6,n6,by omega,cle,fun q bs H3 s3 hqq tb=>?_⟩
   have pen3:=pen2.same s3
   have hD3:=s3 _ _ hD2
   refine ⟨lz 3 rfl,fun l3 hl3=>?_⟩
   have s_A6:=sN hl3 (.lst [.int 500,.int 501,.int 499])
   have g_l3:upd H3 l3 (.lst [.int 500,.int 501,.int 499]) l3=some (.lst [.int 500,.int 501,.int 499]):=uS
   generalize upd H3 l3 (.lst [.int 500,.int 501,.int 499])=A6 at s_A6 g_l3 ⊢
   have pen4:=pen3.same s_A6
   refine ⟨_,rfl,p,_,_,rfl,pen4,by decide,by decide,by decide,fun r5 H4 r50 r51 pen5 x5=>?_⟩
   obtain ⟨zz,hzz,hat2⟩:=qip (cs:=[500,501,499]) r50 r51
   obtain ⟨kk,rfl,kk5⟩:=qmb hzz
   have hq5:=pen4.keep x5 (s_A6 _ _ hqq)
   have tb5:qa4 H4 bs (comps n0 b0):=Paired.imp' (fun b k e=>pen4.keep x5 (s_A6 _ _ e)) tb
   have hD5:=pen4.keep x5 (s_A6 _ _ hD3)
   refine ⟨l3,_,_,_,rfl,rfl,SqL.of (pen4.keep x5 g_l3),hat2,_,rfl,?_⟩
   refine ⟨q,_,rfl,SqL.of hq5,fun q2 hq2=>?_⟩
   rw [qjp]
   have s7:=sN hq2 (.lst ((bs.map V.ref).take kk))
   have gq2:upd H4 q2 (.lst ((bs.map V.ref).take kk)) q2=some (.lst ((bs.take kk).map V.ref)):=by rw [List.map_take]; exact uS
   generalize upd H4 q2 (.lst ((bs.map V.ref).take kk))=H7 at s7 gq2 ⊢
   have tb7:qa4 H7 (bs.take kk) ((comps n0 b0).take kk):=qdg kk (Paired.imp' (fun b k e=>s7 _ _ e) tb5)
   have pen7:=pen5.same s7
   have hD7:=s7 _ _ hD5
   clear penC xC hDC sA g_t0 g_t1 g_t2 g_t3 g_l pr2 penA hDA pen2 x2 hD2 htc pen3 hD3 pen4 x5 hD5 hq5 tb5 tb pen5 hqq s3 s7
   have ksl:((comps n0 b0).take kk).length=kk:=by rw [List.length_take]; omega
   have ksn:((comps n0 b0).take kk).Nodup:=(qeA n0 b0).sublist (List.take_sublist _ _)
   have ksL:∀ k∈(comps n0 b0).take kk,k.length=n0:=fun k hk=>(qcv n0 b0 k (List.mem_of_mem_take hk)).1
   generalize (comps n0 b0).take kk=ks at tb7 ksl ksn ksL
   generalize bs.take kk=bs2 at tb7 gq2
   have kne:ks≠[]:=fun e=>by rw [e] at ksl; simp at ksl; omega
   have bl:=Paired.length tb7
   refine gN_ ?_
   refine ⟨_,rfl,q2,rfl,⟨_,SqL.of gq2⟩,qcW (qaF (xs:=bs2.map V.ref)) (fun p i ys σ' H'=>Same H7 H'/\(∃ o1,σ'=[o1])/\qkN H' ys ((oneM (ks.take i)).map kII)) (by rw [List.length_map]; omega) ?_ ?_ ?_ ?_⟩
   ·exact fun p hp=>⟨sN hp _,⟨_,rfl⟩,.nil⟩
   ·rintro p i ys σ' H' hp ⟨s',_⟩
    exact s' _ _ gq2
   ·rintro p' i ys σ' H' x H'' hp' hi hl' ⟨s',⟨o1,rfl⟩,rw'⟩ hp'' ⟨rfl,hx⟩ Q1 Q2 h1 h2
    rw [List.getElem?_map,Option.map_eq_some_iff] at hx
    obtain ⟨b2,hb2,rfl⟩:=hx
    obtain ⟨k,hk,hbk⟩:=qah tb7 hb2
    refine gN_ (tT_ (iteT ⟨_,rfl,lz 2 rfl,fun t2 ht2=>?_⟩))
    have s6:=sN ht2 (.tup [.ref b2,.int 1])
    have hp6:=s6 _ _ hp''
    refine h1 _ _ _ hp6 ⟨qa8 hp' (s'.trans s6) _,⟨_,rfl⟩,?_⟩
    rw [take_snoc hk]
    unfold oneM
    rw [List.map_append,List.map_append]
    refine qaC (Paired.imp' (fun v kv ⟨a,b,e,ha,hb⟩=>⟨a,b,e,tupL hp6 _ _ (s6 _ _ ha),tupL hp6 _ _ (s6 _ _ hb)⟩) rw') ⟨t2,b2,rfl,tupL hp6 _ _ uS,?_⟩
    exact qcV (tupL hp6 _ _ (s6 _ _ (s' _ _ hbk)))
   rintro p' ys σ' HI hp' ⟨s',_,rw'⟩ hp'' hl'
   rw [List.length_map,bl,List.take_length] at rw'
   have yl:=Paired.length rw'
   refine ⟨p',ys,_,rfl,hp'',rw',by rw [yl]; simp [oneM]; omega,fun d hd=>?_⟩
   rw [qcI ks.length (oneM ks) (by simp [oneM]) (by rw [qaO]; exact ksn)]
   have s_HJ:=sN hd (.dT ((oneM ks).map kII))
   have g_d:upd HI d (.dT ((oneM ks).map kII)) d=some (.dT ((oneM ks).map kII)):=uS
   generalize upd HI d (.dT ((oneM ks).map kII))=HJ at s_HJ g_d ⊢
   have vs:(qap (oneM ks)).sum=(ks.length:Int):=qgd _
   refine ⟨d,oneM ks,rfl,g_d,by rw [qaO]; exact ksn,fun k hk=>?_,by simp [oneM]; omega,fun k hk=>?_,by omega,bt501 (by omega) (by omega),fun l1 HL sL _ sp=>?_⟩
   ·rw [qaO] at hk
    have:=ksL k hk
    intro e; rw [e] at this; simp at this; omega
   ·rw [qaO] at hk
    rw [qmm ksn hk]; decide
   have s7L:=s'.trans (s_HJ.trans sL)
   have penL:=pen7.same s7L
   have hDL:=s7L _ _ hD7
   have gq2L:=s7L _ _ gq2
   have tbL:qa4 HL bs2 ks:=Paired.imp' (fun b k e=>s7L _ _ e) tb7
   clear tb7 pen7 hD7 gq2 rw' s' s_HJ sL g_d hp''
   refine gN_ ?_
   refine ⟨_,rfl,lz 2 rfl,fun u0 hu0=>?_⟩
   have s_M0:=sN hu0 (.tup [.int 0,.int 0])
   have g_u0:upd HL u0 (.tup [.int 0,.int 0]) u0=some (.tup [.int 0,.int 0]):=uS
   generalize upd HL u0 (.tup [.int 0,.int 0])=M0 at s_M0 g_u0 ⊢
   refine ⟨_,rfl,_,_,rfl,rfl,_,rfl,_,_,rfl,rfl,lz 2 rfl,fun u1 hu1=>?_⟩
   have s_M1:=sN hu1 (.tup [.int ((n0:Int) - 1),.int ((n0:Int) - 1)])
   have g_u1:upd M0 u1 (.tup [.int ((n0:Int) - 1),.int ((n0:Int) - 1)]) u1=some (.tup [.int ((n0:Int) - 1),.int ((n0:Int) - 1)]):=uS
   generalize upd M0 u1 (.tup [.int ((n0:Int) - 1),.int ((n0:Int) - 1)])=M1 at s_M1 g_u1 ⊢
   refine ⟨lz 2 rfl,fun u2 hu2=>?_⟩
   have s_M2:=sN hu2 (.tup [.int 0,.int 1])
   have g_u2:upd M1 u2 (.tup [.int 0,.int 1]) u2=some (.tup [.int 0,.int 1]):=uS
   generalize upd M1 u2 (.tup [.int 0,.int 1])=M2 at s_M2 g_u2 ⊢
   refine ⟨lz 3 rfl,fun u3 hu3=>?_⟩
   have s_M3:=sN hu3 (.lst [.ref u0,.ref u1,.ref u2])
   have g_u3:upd M2 u3 (.lst [.ref u0,.ref u1,.ref u2]) u3=some (.lst [.ref u0,.ref u1,.ref u2]):=uS
   generalize upd M2 u3 (.lst [.ref u0,.ref u1,.ref u2])=M3 at s_M3 g_u3 ⊢
   have sM3:Same HL M3:=s_M0.trans (s_M1.trans (s_M2.trans s_M3))
   have g_u0:=(s_M1.trans (s_M2.trans s_M3)) _ _ g_u0
   have g_u1:=(s_M2.trans s_M3) _ _ g_u1
   have g_u2:=(s_M3) _ _ g_u2
   have pr3:Paired (Pr2 M3) [.ref u0,.ref u1,.ref u2] [(0,0),((n0:Int) - 1,(n0:Int) - 1),(0,1)] := .cons ⟨u0,rfl,g_u0⟩ (.cons ⟨u1,rfl,g_u1⟩ (.cons ⟨u2,rfl,g_u2⟩ .nil))
   have pen8:=penL.same sM3
   refine ⟨_,rfl,p,_,_,rfl,pen8,by decide,by decide,by decide,fun r6 H8 r60 r61 pen9 x9=>?_⟩
   obtain ⟨pc,tp,hpc,hatp,htp⟩:=qfO pr3 r60 r61
   have fewp:=qkA n3 hpc
   have k9:∀ {b:Addr} {xs:List V},HL b=some (.tup xs)->H8 b=some (.tup xs):=fun h=>pen8.keep x9 (sM3 _ _ h)
   have gq8:=pen8.keep x9 (sM3 _ _ gq2L)
   have tb8:qa4 H8 bs2 ks:=Paired.imp' (fun b k e=>k9 e) tbL
   have hD8:=pen8.keep x9 (sM3 _ _ hDL)
   obtain ⟨kvp,dkp⟩:=pen8.dk
   have sp8:=SpAt.sameX dkp x9 (SpAt.same sM3 sp)
   have htp8:=pen8.keep x9 htp
   refine ⟨u3,_,_,_,rfl,rfl,SqL.of (pen8.keep x9 g_u3),hatp,lz 1 rfl,fun u4 hu4=>?_⟩
   clear penL hDL gq2L tbL sp g_u0 g_u1 g_u2 g_u3 pr3 pen8 x9 dkp htp k9
   have s_M4:=sN hu4 (.tup [.ref tp])
   have g_u4:upd H8 u4 (.tup [.ref tp]) u4=some (.tup [.ref tp]):=uS
   generalize upd H8 u4 (.tup [.ref tp])=M4 at s_M4 g_u4 ⊢
   refine ⟨_,rfl,lz 3 rfl,fun u5 hu5=>?_⟩
   have s_M5:=sN hu5 (.tup [.int (n0:Int),.ref u4,.str ti])
   have g_u5:upd M4 u5 (.tup [.int (n0:Int),.ref u4,.str ti]) u5=some (.tup [.int (n0:Int),.ref u4,.str ti]):=uS
   generalize upd M4 u5 (.tup [.int (n0:Int),.ref u4,.str ti])=M5 at s_M5 g_u5 ⊢
   refine gN_ ?_
   refine ⟨_,rfl,_,rfl,_,_,rfl,rfl,lz 2 rfl,fun v0 hv0=>?_⟩
   have s_M6:=sN hv0 (.tup [.int 0,.int 0])
   have g_v0:upd M5 v0 (.tup [.int 0,.int 0]) v0=some (.tup [.int 0,.int 0]):=uS
   generalize upd M5 v0 (.tup [.int 0,.int 0])=M6 at s_M6 g_v0 ⊢
   refine ⟨lz 1 rfl,fun v1 hv1=>?_⟩
   have s_M7:=sN hv1 (.tup [.ref v0])
   have g_v1:upd M6 v1 (.tup [.ref v0]) v1=some (.tup [.ref v0]):=uS
   generalize upd M6 v1 (.tup [.ref v0])=M7 at s_M7 g_v1 ⊢
   refine ⟨_,rfl,lz 3 rfl,fun v2 hv2=>?_⟩
   have s_M8:=sN hv2 (.tup [.int ((n0:Int) - 1),.ref v1,.str ti])
   have g_v2:upd M7 v2 (.tup [.int ((n0:Int) - 1),.ref v1,.str ti]) v2=some (.tup [.int ((n0:Int) - 1),.ref v1,.str ti]):=uS
   generalize upd M7 v2 (.tup [.int ((n0:Int) - 1),.ref v1,.str ti])=M8 at s_M8 g_v2 ⊢
   refine ⟨_,rfl,_,_,rfl,rfl,_,_,rfl,lz 2 rfl,fun w0 hw0=>?_⟩
   have s_M9:=sN hw0 (.tup [.int 0,.int 0])
   have g_w0:upd M8 w0 (.tup [.int 0,.int 0]) w0=some (.tup [.int 0,.int 0]):=uS
   generalize upd M8 w0 (.tup [.int 0,.int 0])=M9 at s_M9 g_w0 ⊢
   refine ⟨lz 1 rfl,fun w1 hw1=>?_⟩
   have s_Ma:=sN hw1 (.tup [.ref w0])
   have g_w1:upd M9 w1 (.tup [.ref w0]) w1=some (.tup [.ref w0]):=uS
   generalize upd M9 w1 (.tup [.ref w0])=Ma at s_Ma g_w1 ⊢
   obtain ⟨m6,em6,m61,m66⟩:=min6 n0 (low3 n3) n6
   refine ⟨_,rfl,lz 3 rfl,fun w2 hw2=>?_⟩
   rw [em6]
   have s_Mb:=sN hw2 (.tup [.int (m6:Int),.ref w1,.str ti])
   have g_w2:upd Ma w2 (.tup [.int (m6:Int),.ref w1,.str ti]) w2=some (.tup [.int (m6:Int),.ref w1,.str ti]):=uS
   generalize upd Ma w2 (.tup [.int (m6:Int),.ref w1,.str ti])=Mb at s_Mb g_w2 ⊢
   refine ⟨lz 3 rfl,fun tt htt=>?_⟩
   have s_Mc:=sN htt (.tup [.ref u5,.ref v2,.ref w2])
   have g_tt:upd Mb tt (.tup [.ref u5,.ref v2,.ref w2]) tt=some (.tup [.ref u5,.ref v2,.ref w2]):=uS
   generalize upd Mb tt (.tup [.ref u5,.ref v2,.ref w2])=Mc at s_Mc g_tt ⊢
   have sMc:Same H8 Mc:=s_M4.trans (s_M5.trans (s_M6.trans (s_M7.trans (s_M8.trans (s_M9.trans (s_Ma.trans (s_Mb.trans s_Mc)))))))
   have g_u4:=(s_M5.trans (s_M6.trans (s_M7.trans (s_M8.trans (s_M9.trans (s_Ma.trans (s_Mb.trans s_Mc))))))) _ _ g_u4
   have g_u5:=(s_M6.trans (s_M7.trans (s_M8.trans (s_M9.trans (s_Ma.trans (s_Mb.trans s_Mc)))))) _ _ g_u5
   have g_v0:=(s_M7.trans (s_M8.trans (s_M9.trans (s_Ma.trans (s_Mb.trans s_Mc))))) _ _ g_v0
   have g_v1:=(s_M8.trans (s_M9.trans (s_Ma.trans (s_Mb.trans s_Mc)))) _ _ g_v1
   have g_v2:=(s_M9.trans (s_Ma.trans (s_Mb.trans s_Mc))) _ _ g_v2
   have g_w0:=(s_Ma.trans (s_Mb.trans s_Mc)) _ _ g_w0
   have g_w1:=(s_Mb.trans s_Mc) _ _ g_w1
   have g_w2:=(s_Mc) _ _ g_w2
   have htp8:=(s_M4.trans (s_M5.trans (s_M6.trans (s_M7.trans (s_M8.trans (s_M9.trans (s_Ma.trans (s_Mb.trans s_Mc)))))))) _ _ htp8
   have nets:∀ x∈[V.ref u5,.ref v2,.ref w2],∃ (m:Nat) (ps:List (Int × Int)),qbc Mc x m ps ti/\Nt m ps ti:=by
    intro x hx
    simp only [List.mem_cons,List.not_mem_nil,or_false] at hx
    rcases hx with rfl | rfl | rfl
    ·exact ⟨n0,[pc],⟨u5,u4,_,rfl,g_u5,g_u4,.cons ⟨tp,rfl,htp8⟩ .nil⟩,⟨low3 n3,n6,fewp,Nat.le_refl 1,(by show 1≤40; decide),hti⟩⟩
    ·exact ⟨n0 - 1,[(0,0)],⟨v2,v1,_,rfl,by rw [show ((n0 - 1:Nat):Int)=(n0:Int) - 1 by omega]; exact g_v2,g_v1,.cons ⟨v0,rfl,g_v0⟩ .nil⟩,nt00 (by omega) (by omega) hti⟩
    ·exact ⟨m6,[(0,0)],⟨w2,w1,_,rfl,g_w2,g_w1,.cons ⟨w0,rfl,g_w0⟩ .nil⟩,nt00 m61 m66 hti⟩
   have gqc:=sMc _ _ gq8
   have tbc:qa4 Mc bs2 ks:=Paired.imp' (fun b k e=>sMc _ _ e) tb8
   have spc:=SpAt.same sMc sp8
   have hDc:=sMc _ _ hD8
   have penc:=pen9.same sMc
   refine ⟨tt,rfl,⟨_,SqT.of g_tt⟩,qja (xs:=[.ref u5,.ref v2,.ref w2]) (fun j σ H'=>Same Mc H'/\∃ o10,σ=[some (.ref a),some (.ref p),some (.str ti),o3,o4,some (.int (n0:Int)),o6,some (.ref u5),some (.ref q2),some (.ref l1),o10,o11,o12,o13,o14,some (.int (b0:Int))]) ⟨Same.refl _,_,rfl⟩ ?_ ?_ ?_⟩
   ·rintro j σ H' _ ⟨s',_⟩
    exact SqT.of (s' _ _ g_tt)
   ·rintro j x σ H' hx ⟨s',o10',rfl⟩
    obtain ⟨m,ps,netx,N⟩:=nets x (List.mem_of_getElem? hx)
    refine gN_ ?_
    refine ⟨s' _ _ hDc,fun B1 sB1=>?_⟩
    have sM1:=s'.trans sB1
    refine ⟨_,rfl,_,rfl,qnj (qga e2 e4 N (netx.same sM1) (SpAt.same sM1 spc) kne ksn ksL (by rw [ksl]; exact kk5.2) fun B2 sB2=>?_)⟩
    have sM2:=sM1.trans sB2
    refine ⟨_,rfl,_,rfl,qnD (qf6 (k:=1) rfl N (netx.same sM2) (sM2 _ _ gqc) (Paired.imp' (fun b k e=>sM2 _ _ e) tbc) kne ksn ksL (by rw [ksl]; exact kk5.2) (by decide) fun B3 sB3=>?_)⟩
    refine ⟨rfl,_,rfl,qhz (Eq.refl _) ?_⟩
    exact ⟨sM2.trans sB3,_,rfl⟩
   ·rintro σ H' ⟨s',o10',rfl⟩
    exact key _ _ ⟨⟨_,_,_,_,_,_,_,_,_,_,_,_,_,rfl⟩,(penc.same s').mono (by omega),s' _ _ hDc⟩
  ·exact key _ _ ⟨⟨_,_,_,_,_,_,_,_,_,_,_,_,_,rfl⟩,penC.mono (by omega),hDC⟩
 rintro σ' HE ⟨⟨o3,o4,o5,o6,o7,o8,o9,o10,o11,o12,o13,o14,o15,rfl⟩,penE,hDE⟩
 clear penB hDB
 refine ⟨4,rfl,by decide,by decide,qbK (n:=4) (fun i σ H2=>(∃ o3 o4 o5 o6 o7 o8 o9 o10 o11 o12 o13 o14 o15,σ=[some (.ref a),some (.ref p),some (.str ti),o3,o4,o5,o6,o7,o8,o9,o10,o11,o12,o13,o14,o15])/\Pen H2 p (500 * i + 7)/\H2 D=some (.tab (qLam "law"))) ⟨⟨_,_,_,_,_,_,_,_,_,_,_,_,_,rfl⟩,penE,hDE⟩ ?_ ?_⟩
 ·clear penE hDE
  rintro i σ H2 hi ⟨⟨o3,o4,o5,o6,o7,o8,o9,o10,o11,o12,o13,o14,o15,rfl⟩,pen,hD⟩
  have mb:500 * i + 7 + 400 < 60000:=by omega
  refine ⟨_,rfl,p,_,_,rfl,pen,qnk mb 0 (by decide),by decide,by decide,fun r4 H3 r40 r41 pen3 x3=>⟨_,_,rfl,rfl,?_⟩⟩
  obtain ⟨n,hn1⟩:=qiK (show 0≤1 + r4 by omega)
  show qky 5 (V.int (1 + r4)) _ _ _
  rw [hn1]
  obtain ⟨n1,n6⟩:=n16 hn1 r40 r41
  have hD3:=pen.keep x3 hD
  refine gN_ ?_
  refine ⟨_,rfl,_,rfl,p,n,_,rfl,pen3,lt_q mb 1 (by decide),n1,n6,fun v ps t H4 net4 q1 q40 few ht pen4 x4=>?_⟩
  have hD4:=pen3.keep x4 hD3
  have N:Nt n ps t:=⟨n1,n6,few,q1,q40,ht⟩
  refine gN_ ?_
  refine ⟨_,rfl,_,rfl,p,_,_,rfl,pen4,qnk mb 301 (by decide),by decide,by decide,fun r5 H5 r50 r51 pen5 x5=>⟨_,_,rfl,rfl,lz 2 rfl,fun q5 hq5=>?_⟩⟩
  have s_A5:=sN hq5 (.lst [.int (n:Int),.int (1 + r5)])
  have g_q5:upd H5 q5 (.lst [.int (n:Int),.int (1 + r5)]) q5=some (.lst [.int (n:Int),.int (1 + r5)]):=uS
  generalize upd H5 q5 (.lst [.int (n:Int),.int (1 + r5)])=A5 at s_A5 g_q5 ⊢
  have pen5':=pen5.same s_A5
  refine ⟨_,rfl,p,_,_,rfl,pen5',qnk mb 302 (by decide),by decide,by decide,fun r6 H6 r60 r61 pen6 x6=>?_⟩
  obtain ⟨bb,hbb,hat⟩:=qip (cs:=[(n:Int),1 + r5]) r60 r61
  obtain ⟨b,rfl,b1,b6⟩:=qkI n1 n6 r50 r51 hbb
  refine ⟨q5,_,_,_,rfl,rfl,SqL.of (pen5'.keep x6 g_q5),hat,?_⟩
  refine gN_ ?_
  have net6:=((net4.sameX pen4 x5).same s_A5).sameX pen5' x6
  have hD6:=pen5'.keep x6 (s_A5 _ _ (pen4.keep x5 hD4))
  refine ⟨_,rfl,_,rfl,_,rfl,p,_,_,rfl,pen6,qnk mb 303 (by decide),by decide,by decide,fun r7 H7 r70 r71 pen7 x7=>?_⟩
  obtain ⟨ba,rfl⟩:=qiK r70
  refine ⟨p,b,ba,_,rfl,b1,b6,by omega,pen7,lt_q mb 304 (by decide),fun sa st H8 hsa sl snn ssum pen8 x8=>?_⟩
  have net8:=(net6.sameX pen6 x7).sameX pen7 x8
  have hD8:=pen7.keep x8 (pen6.keep x7 hD6)
  clear x3 x4 x5 x6 x7 x8 pen3 pen4 pen5 pen5' pen6 pen7 g_q5 s_A5 hD hD3 hD4 hD6 net4 net6 pen
  refine gN_ ?_
  have i40:=i36x snn ssum (by omega)
  have gk:=ql9 (n:=n) (ps:=ps) (t:=t) (st:=st) n6 q40 few ht (by omega) i40
  obtain ⟨DK,eK⟩:∃ y,y=kpD n ps t st:=⟨_,rfl⟩
  rw [<- eK] at gk
  have dat:∀ {h:Hp} {tk:Addr},Same H8 h->h tk=some (.tup [v,.ref sa])->qcQ h (.ref tk) DK:=fun s htk=>by
   rw [eK]
   exact .tup htk (.cons (net8.same s).data (.cons (.tup (s _ _ hsa) (qdv _ _)) .nil))
  refine ⟨_,rfl,_,rfl,lz 2 rfl,fun tk htk=>?_⟩
  have s_HK:=sN htk (.tup [v,.ref sa])
  have g_tk:upd H8 tk (.tup [v,.ref sa]) tk=some (.tup [v,.ref sa]):=uS
  generalize upd H8 tk (.tup [v,.ref sa])=HK at s_HK g_tk ⊢
  refine ⟨_,DK,rfl,dat s_HK g_tk,gk.sh,gk.ld,gk.dp,gk.ln,?_⟩
  refine gN_ ?_
  have penK:=pen8.same s_HK
  refine ⟨_,rfl,p,_,_,rfl,penK,qnk mb 346 (by decide),by decide,by decide,fun r9 H9 r90 r91 pen9 x9=>⟨lz 3 rfl,fun tt htt=>?_⟩⟩
  obtain ⟨kd,rfl⟩:=qiK r90
  have net9:=(net8.same s_HK).sameX penK x9
  have hsa9:=penK.keep x9 (s_HK _ _ hsa)
  have hD9:=penK.keep x9 (s_HK _ _ hD8)
  clear penK x9 hD8 net8 hsa dat
  have dat:∀ {h:Hp} {tk:Addr},Same H9 h->h tk=some (.tup [v,.ref sa])->qcQ h (.ref tk) DK:=fun s htk=>by
   rw [eK]
   exact .tup htk (.cons (net9.same s).data (.cons (.tup (s _ _ hsa9) (qdv _ _)) .nil))
  have s_HM:=sN htt (.tup [.int 0,.int 1,.int (kd:Int)])
  have g_tt:upd H9 tt (.tup [.int 0,.int 1,.int (kd:Int)]) tt=some (.tup [.int 0,.int 1,.int (kd:Int)]):=uS
  generalize upd H9 tt (.tup [.int 0,.int 1,.int (kd:Int)])=HM at s_HM g_tt ⊢
  refine ⟨tt,rfl,⟨_,SqT.of g_tt⟩,qja (xs:=[.int 0,.int 1,.int (kd:Int)]) (fun j σ H'=>Same HM H'/\∃ o14,σ=[some (.ref a),some (.ref p),some (.str ti),o3,some (.int (0 + (i:Int))),some (.int (n:Int)),o6,some v,o8,o9,o10,some (.int (b:Int)),some (.ref sa),some (.str DK.shown),o14,o15]) ⟨Same.refl _,_,rfl⟩ ?_ ?_ ?_⟩
  ·rintro j σ H' _ ⟨s',_⟩
   exact SqT.of (s' _ _ g_tt)
  ·rintro j x σ H' hx ⟨s',o14',rfl⟩
   obtain ⟨kk,rfl,kk4⟩:∃ kk:Nat,x = .int (kk:Int)/\kk≤4:=by
    match j,hx with
    | 0,h=>exact ⟨0,(Option.some.inj h).symm,by decide⟩
    | 1,h=>exact ⟨1,(Option.some.inj h).symm,by decide⟩
    | 2,h=>exact ⟨kd,(Option.some.inj h).symm,by omega⟩
   have sM:=s_HM.trans s'
   refine gN_ ?_
   refine ⟨sM _ _ hD9,fun B1 sB1=>?_⟩
   have sM1:=sM.trans sB1
   refine ⟨_,rfl,_,rfl,_,rfl,qnj (qgb (b:=b) (k:=kk) rfl e2 e4 N (net9.same sM1) (sM1 _ _ hsa9) sl (le4 kk4 (by decide)) fun B2 sB2=>?_)⟩
   have sM2:=sM1.trans sB2
   refine ⟨_,rfl,_,rfl,lz 1 rfl,fun q1 hq1=>?_⟩
   have s_B3:=sN hq1 (.lst [.ref sa])
   have g_q1:upd B2 q1 (.lst [.ref sa]) q1=some (.lst [.ref sa]):=uS
   generalize upd B2 q1 (.lst [.ref sa])=B3 at s_B3 g_q1 ⊢
   have sM3:=sM2.trans s_B3
   refine ⟨_,rfl,qnj (qf6 (k:=kk) (bs:=[sa]) (ks:=[st]) (b:=b) rfl N (net9.same sM3) g_q1 (.cons (sM3 _ _ hsa9) .nil) (by simp) (by simp) (fun k hk=>by rw [List.mem_singleton.mp hk]; exact sl) (by simp) (le4 kk4 (by decide)) fun B4 sB4=>?_)⟩
   refine ⟨rfl,_,rfl,qhz (Eq.refl _) ?_⟩
   exact ⟨s'.trans (sB1.trans (sB2.trans (s_B3.trans sB4))),_,rfl⟩
  ·rintro σ H' ⟨s',o14',rfl⟩
   have sM:=s_HM.trans s'
   refine ⟨sM _ _ hD9,fun B1 sB1=>?_⟩
   have sM1:=sM.trans sB1
   refine ⟨_,rfl,_,rfl,lz 2 rfl,fun z1 hz1=>?_⟩
   have s_B2:=sN hz1 (.tup [.int 1,.int 1])
   have g_z1:upd B1 z1 (.tup [.int 1,.int 1]) z1=some (.tup [.int 1,.int 1]):=uS
   generalize upd B1 z1 (.tup [.int 1,.int 1])=B2 at s_B2 g_z1 ⊢
   refine ⟨lz 2 rfl,fun z2 hz2=>?_⟩
   have s_B3:=sN hz2 (.tup [.ref sa,.ref z1])
   have g_z2:upd B2 z2 (.tup [.ref sa,.ref z1]) z2=some (.tup [.ref sa,.ref z1]):=uS
   generalize upd B2 z2 (.tup [.ref sa,.ref z1])=B3 at s_B3 g_z2 ⊢
   refine ⟨lz 1 rfl,fun z3 hz3=>?_⟩
   have s_B4:=sN hz3 (.lst [.ref z2])
   have g_z3:upd B3 z3 (.lst [.ref z2]) z3=some (.lst [.ref z2]):=uS
   generalize upd B3 z3 (.lst [.ref z2])=B4 at s_B4 g_z3 ⊢
   have s14:Same B1 B4:=s_B2.trans (s_B3.trans s_B4)
   have g_z1:=(s_B3.trans s_B4) _ _ g_z1
   have g_z2:=(s_B4) _ _ g_z2
   have sM4:=sM1.trans s14
   have sp:SpAt B4 z3 (sprF (oneM [st]) (qap (oneM [st])).sum):=by
    rw [qlU]
    exact ⟨[.ref z2],g_z3,.cons ⟨z2,sa,.ref z1,rfl,g_z2,sM4 _ _ hsa9,z1,rfl,g_z1⟩ .nil⟩
   refine qnj (qga (b:=b) e2 e4 N (net9.same sM4) sp (by simp) (by simp) (fun k hk=>by rw [List.mem_singleton.mp hk]; exact sl) (by simp) fun B5 sB5=>?_)
   have sM5:=sM4.trans sB5
   refine ⟨_,rfl,_,rfl,lz 1 rfl,fun q1 hq1=>?_⟩
   have s_B6:=sN hq1 (.lst [.ref sa])
   have g_q1:upd B5 q1 (.lst [.ref sa]) q1=some (.lst [.ref sa]):=uS
   generalize upd B5 q1 (.lst [.ref sa])=B6 at s_B6 g_q1 ⊢
   have sM6:=sM5.trans s_B6
   refine qnD (qf6 (k:=1) (bs:=[sa]) (ks:=[st]) (b:=b) rfl N (net9.same sM6) g_q1 (.cons (sM6 _ _ hsa9) .nil) (by simp) (by simp) (fun k hk=>by rw [List.mem_singleton.mp hk]; exact sl) (by simp) (by decide) fun B7 sB7=>?_)
   refine ⟨rfl,_,rfl,qhz (Eq.refl _) ?_⟩
   have sM7:=sM6.trans sB7
   refine ⟨_,rfl,_,rfl,lz 2 rfl,fun tk2 htk2=>?_⟩
   have s_B8:=sN htk2 (.tup [v,.ref sa])
   have g_tk2:upd B7 tk2 (.tup [v,.ref sa]) tk2=some (.tup [v,.ref sa]):=uS
   generalize upd B7 tk2 (.tup [v,.ref sa])=B8 at s_B8 g_tk2 ⊢
   have sM8:=sM7.trans s_B8
   refine ⟨_,DK,rfl,dat sM8 g_tk2,gk.sh,gk.ld,gk.dp,gk.ln,_,rfl,rfl,_,rfl,qhz (Eq.refl _) ?_⟩
   exact ⟨⟨_,_,_,_,_,_,_,_,_,_,_,_,_,rfl⟩,(pen9.same sM8).mono (by omega),sM8 _ _ hD9⟩
 ·rintro σ H2 ⟨⟨o3,o4,o5,o6,o7,o8,o9,o10,o11,o12,o13,o14,o15,rfl⟩,pen,hD⟩
  exact k _ hD
end
end My
namespace My
open PySem L2 MA
theorem ar1 {C:List Value->Prop}(h:∀ a0,C [a0]):∀ us:List Value,us.length=1->C us
 | [a0],_=>h a0
theorem ar2 {C:List Value->Prop}(h:∀ a0 a1,C [a0,a1]):∀ us:List Value,us.length=2->C us
 | [a0,a1],_=>h a0 a1
theorem ar3 {C:List Value->Prop}(h:∀ a0 a1 a2,C [a0,a1,a2]):∀ us:List Value,us.length=3->C us
 | [a0,a1,a2],_=>h a0 a1 a2
structure Funs (K:PySem.W.Frag)(mg:Str->Option Value):Prop where
 f_measure:FunAt K mg "measure" ["a", "b"] s_measure
 f_share:FunAt K mg "share" ["top", "bottom"] s_share
 f_plus:FunAt K mg "plus" ["a", "b"] s_plus
 f_times:FunAt K mg "times" ["a", "b"] s_times
 f_total:FunAt K mg "total" ["some"] s_total
 f_parted:FunAt K mg "parted" ["top", "bottoms"] s_parted
 f_gathered:FunAt K mg "gathered" ["rows"] s_gathered
 f_summed:FunAt K mg "summed" ["rows"] s_summed
 f_spread_of:FunAt K mg "spread_of" ["weights", "bottoms"] s_spread_of
 f_ask_boxes_of:FunAt K mg "ask_boxes_of" ["net", "stand"] s_ask_boxes_of
 f_ask_few:FunAt K mg "ask_few" ["stands"] s_ask_few
 f_box_weights:FunAt K mg "box_weights" ["net", "stand"] s_box_weights
 f_next_stands:FunAt K mg "next_stands" ["net", "stand"] s_next_stands
 f_all_weights:FunAt K mg "all_weights" ["net"] s_all_weights
 f_put_on:FunAt K mg "put_on" ["net", "spread"] s_put_on
 f_after_on:FunAt K mg "after_on" ["net", "stand", "many"] s_after_on
 f_l_pen:FunAt K mg "_law_pen" ["_law_script"] s_l_pen
 f_l_draw:FunAt K mg "_law_draw" ["_law_pen_here", "_law_many"] s_l_draw
 f_l_measure:FunAt K mg "_law_measure" ["_law_a", "_law_b"] s_l_measure
 f_l_lowest:FunAt K mg "_law_lowest" ["_law_top", "_law_bottom"] s_l_lowest
 f_l_net:FunAt K mg "_law_net" ["_law_pen_here", "_law_n"] s_l_net
 f_l_stand:FunAt K mg "_law_stand" ["_law_pen_here", "_law_n", "_law_balls"] s_l_stand
 f_l_on:FunAt K mg "_law_on" ["_law_net_here", "_law_found"] s_l_on
 f_l_spread:FunAt K mg "_law_spread" ["_law_found"] s_l_spread
 f_l_word:FunAt K mg "_law_word" ["_law_ask"] s_l_word
 f_l_behind:FunAt K mg "_law_behind" ["_law_net_here", "_law_some"] s_l_behind
 f_l_due:FunAt K mg "_law_due" ["_law_net_here", "_law_some", "_law_many"] s_l_due
 f_l_all:FunAt K mg "_law_all" ["_law_n", "_law_balls"] s_l_all
theorem all_mk {l:PySem.W.OpenLaw}{w:World}{K:PySem.W.Frag}{h:Heap}{mg:Str->Option Value}{fa f3:Addr}(X:K.In h)(G:h.Ns mainGlobals mg)(hfa:mg "law" = some (.ref fa))
  {od3 an3:Option Addr} {sl3:Array (Option Value)} {oc3 kV3 dc3 pm3 cd3 ct3:Value} {er:Errs} (T:Txt2 mg) (N:ErrN mg er) (q2:qkD K er er.c2 2=true) (q4:qkD K er er.c4 4=true) (FA:Funs K mg) {tkM:Tok} (hms:mg "MOST_STANDS" = some (.int 500 tkM))
  (a3:PySem.W.nsIn K mainGlobals "law" = some (some (.ref f3))) (l3:K.lookup f3=some ⟨oc3,od3,.func (PySem.W.fnOf "law" "law" (qbL qee) (qbb qee) (qae qee) .none kV3 dc3 pm3 an3 cd3 ct3),sl3⟩) (c3:PySem.W.codeIn K cd3 "law" = true) (k3:PySem.W.keepIn K (.ref f3)=true) :
  ∃ fd:FuncData,(∀ (s:Shared) (v:Value),BindsTo s fd ⟨[v],[]⟩ [("_law_script",v)])/\∀ (cp:Str->Addr × Addr) (base:Heap),K.In base->base.Ns mainGlobals mg->(∀ y∈(["law"]:List Str),qdC mg base y (cp y).1 (cp y).2)->FnOk l.prog w K mg base CX0 9 fa fd ["_law_script"] (qgn K (cp "law").2 (qLam "law")):=by
 have e:=hfa.symm.trans (PySem.W.mg_of X G a3)
 cases e
 have F3:=qld (st:=qee) l3 c3 k3
 refine ⟨PySem.W.fnOf "law" "law" (qbL qee) (qbb qee) (qae qee) .none kV3 dc3 pm3 an3 cd3 ct3,fun s v => .of_eq rfl,fun cp base kb nb LF=>?_⟩
 obtain ⟨e2,z2⟩:=qg4 q2
 obtain ⟨e4,z4⟩:=qg4 q4
 have L0:=LF "law" (by simp)
 have c_measure:=qhp (P:=l.prog) (w:=w) (base:=base) T.toTxt FA.f_measure
 have c_share:=qke c_measure FA.f_share
 have c_plus:=qlY c_measure FA.f_plus
 have c_times:=qkd c_measure FA.f_times
 have c_total:=qkc c_plus FA.f_total
 have c_parted:=qiC c_measure FA.f_parted
 have c_gathered:=qfV (P:=l.prog) (w:=w) (base:=base) FA.f_gathered
 have c_spreadof:=qfT T c_parted FA.f_spread_of
 have c_summed:=qiA T c_total FA.f_summed
 have c_askof:=qki (P:=l.prog) (w:=w) (base:=base) T N z2 FA.f_ask_boxes_of
 have c_few:=ql0 (P:=l.prog) (w:=w) (base:=base) T N z4 hms FA.f_ask_few
 have c_fewl:=qkg (P:=l.prog) (w:=w) (base:=base) T N z4 hms FA.f_ask_few
 have c_boxw:=ql1 (P:=l.prog) (w:=w) (base:=base) T FA.f_box_weights
 have c_next:=qlZ T c_boxw FA.f_next_stands
 have c_allw:=ql2 (P:=l.prog) (w:=w) (base:=base) T FA.f_all_weights
 have c_after:=qhr T c_askof c_few c_next c_gathered c_allw c_spreadof FA.f_after_on
 have c_puton:=qkf T c_askof c_fewl c_next c_allw c_times c_share c_summed FA.f_put_on
 have c_pen:=qne (P:=l.prog) (w:=w) (base:=base) FA.f_l_pen
 have c_draw:=qkh (P:=l.prog) (w:=w) (base:=base) T.toTxt FA.f_l_draw
 have c_lmeasure:=qfU (P:=l.prog) (w:=w) (base:=base) FA.f_l_measure
 have c_lowest:=qiD c_lmeasure FA.f_l_lowest
 have c_lspread:=qhq T c_lowest FA.f_l_spread
 have c_on:=ok_on (P:=l.prog) (w:=w) (base:=base) T FA.f_l_on
 have c_net:=qnf T c_draw FA.f_l_net
 have c_stand:=qiB T c_draw FA.f_l_stand
 have c_word:=qlX (P:=l.prog) (w:=w) (base:=base) T N FA.f_l_word
 have c_behind:=qiE T c_on FA.f_l_behind
 have c_due:=qnh T c_behind FA.f_l_due
 have c_all0:=ql3 (P:=l.prog) (w:=w) (base:=base) FA.f_l_all
 have c_all1:=qcH (N:=0) T FA.f_l_all c_all0
 have c_all2:=qcH (N:=1) T FA.f_l_all c_all1
 have c_all3:=qcH (N:=2) T FA.f_l_all c_all2
 have c_all4:=qcH (N:=3) T FA.f_l_all c_all3
 have c_all5:=qcH (N:=4) T FA.f_l_all c_all4
 have c_all6:=qcH (N:=5) T FA.f_l_all c_all5
 exact qng T hfa kb L0 e2 e4 c_after c_puton c_pen c_draw c_net c_stand c_lspread c_word c_due c_all6 F3
theorem walk {l:PySem.W.OpenLaw}{q:Program}{loose:List Str}{XP:(Str->Option Value)->Heap->Prop}{YP:World->Heap->Prop}{d:PySem.DefRec}{K:Params->PySem.W.Frag}(hn:l.most=some 63)(hdf:d.params.defaults=[])
  (hY:∀ (w:World) (h:Heap),YP w h->(K w.params).In h) (noT:∀ p,PySem.W.noTabs (K p)=true) (hlam:∀ y∈(["law"]:List Str),∃ e∈PyProof.Rows.recsOf q,e.name=y)
  (F:∀ (w:World) (mg:Str->Option Value) (fa:Addr) (h:Heap),(K w.params).In h->h.Ns mainGlobals mg->mg d.name=some (.ref fa) ->
    ∃ fd:FuncData,(∀ (s:Shared) (u:Value),BindsTo s fd ⟨[u],[]⟩ [("_law_script",u)])/\∀ (cp:Str->Addr × Addr) (base:Heap),(K w.params).In base->base.Ns mainGlobals mg->(∀ y∈(["law"]:List Str),qdC mg base y (cp y).1 (cp y).2)->FnOk l.prog w (K w.params) mg base CX0 9 fa fd ["_law_script"] (qgn (K w.params) (cp "law").2 (qLam "law"))) :
  PySem.W.WalkO q loose XP YP l.row.toRowW d [] (fun f vs=>PySem.call f vs) :=
 L2.walk_ofT (n:=63) (k:=9) (x := "_law_script") (lams:=["law"]) (sp:=fun w cp=>qgn (K w.params) (cp "law").2 (qLam "law")) hn (by decide) hdf ⟨rfl,by decide,by decide,rfl⟩ noT hlam hY
  (fun _ _ _ _ _ _ _ y hy z hz _=>by simp at hy hz; rw [hy,hz]) F (fun _ cp H a ns hl hS hT=>⟨a,ns,rfl,hS,hl,hT "law" (by simp),fun H' h'=>⟨rfl,fun y hy=>by simp at hy; subst hy; exact h'⟩⟩)
theorem mr_ML {K:PySem.W.Frag}{h:Heap}{mg:Str->Option Value}{tk:Tok}(X:K.In h)(G:h.Ns mainGlobals mg)(a:PySem.W.nsIn K mainGlobals "MOST_STANDS" = some (some (.int 500 tk))):∃ tk:Tok,mg "MOST_STANDS" = some (.int 500 tk):=⟨tk,PySem.W.mg_of X G a⟩
theorem txt_mk {K:PySem.W.Frag}{h:Heap}{mg:Str->Option Value}(X:K.In h)(G:h.Ns mainGlobals mg)
  (z_abs:PySem.W.nsIn K mainGlobals "abs" = some none)
  (z_len:PySem.W.nsIn K mainGlobals "len" = some none)
  (z_isinstance:PySem.W.nsIn K mainGlobals "isinstance" = some none)
  (z_range:PySem.W.nsIn K mainGlobals "range" = some none)
  (z_int:PySem.W.nsIn K mainGlobals "int" = some none)
  (z_bool:PySem.W.nsIn K mainGlobals "bool" = some none)
  (z_tuple:PySem.W.nsIn K mainGlobals "tuple" = some none)
  (z_list:PySem.W.nsIn K mainGlobals "list" = some none)
  (z_all:PySem.W.nsIn K mainGlobals "all" = some none)
  (z_str:PySem.W.nsIn K mainGlobals "str" = some none)
  (z_repr:PySem.W.nsIn K mainGlobals "repr" = some none)
  (z_dict:PySem.W.nsIn K mainGlobals "dict" = some none)
  (z_sum:PySem.W.nsIn K mainGlobals "sum" = some none)
  (z_sorted:PySem.W.nsIn K mainGlobals "sorted" = some none)
  (z_max:PySem.W.nsIn K mainGlobals "max" = some none)
  (z_min:PySem.W.nsIn K mainGlobals "min" = some none)
  (z_any:PySem.W.nsIn K mainGlobals "any" = some none)
  (z_enumerate:PySem.W.nsIn K mainGlobals "enumerate" = some none)
  (z_zip:PySem.W.nsIn K mainGlobals "zip" = some none)
  (z_set:PySem.W.nsIn K mainGlobals "set" = some none)
  (z_reversed:PySem.W.nsIn K mainGlobals "reversed" = some none)
  (z_ValueError:PySem.W.nsIn K mainGlobals "ValueError" = some none)
  : Txt2 mg:=⟨⟨PySem.W.mg_none_of X G z_abs,PySem.W.mg_none_of X G z_len,PySem.W.mg_none_of X G z_isinstance,PySem.W.mg_none_of X G z_range,PySem.W.mg_none_of X G z_int,PySem.W.mg_none_of X G z_bool,PySem.W.mg_none_of X G z_tuple,PySem.W.mg_none_of X G z_list,PySem.W.mg_none_of X G z_all⟩,PySem.W.mg_none_of X G z_str,PySem.W.mg_none_of X G z_repr,PySem.W.mg_none_of X G z_dict,PySem.W.mg_none_of X G z_sum,PySem.W.mg_none_of X G z_sorted,PySem.W.mg_none_of X G z_max,PySem.W.mg_none_of X G z_min,PySem.W.mg_none_of X G z_any,PySem.W.mg_none_of X G z_enumerate,PySem.W.mg_none_of X G z_zip,PySem.W.mg_none_of X G z_set,PySem.W.mg_none_of X G z_reversed,PySem.W.mg_none_of X G z_ValueError⟩
end My
open PySem PySem.W PyProof.Rows
set_option maxRecDepth 100000 in
set_option maxHeartbeats 0 in
theorem PySem.Challenge.cw_emptierbox_k51_stands_that_are_refused_holds : PySem.Challenge.rw_emptierbox_k51_stands_that_are_refused.Holds := by
 refine My.hd ?_
 k_fill
 refine My.walk (l:=PySem.Challenge.rw_emptierbox_k51_stands_that_are_refused) rfl rfl (fun w h Y=>PySem.W.km_in_of Y) ?noT ?lam ?F
 case noT=>intro p; kernel_rfl
 case lam =>
  intro y hy
  simp only [List.mem_cons,List.not_mem_nil,or_false] at hy
  subst hy; exact My.lam_rec rfl
 case F =>
  intro w mg fa h KX G hmg
  have T:My.Txt2 mg:=by
   refine' My.txt_mk KX G ?z0 ?z1 ?z2 ?z3 ?z4 ?z5 ?z6 ?z7 ?z8 ?z9 ?z10 ?z11 ?z12 ?z13 ?z14 ?z15 ?z16 ?z17 ?z18 ?z19 ?z20 ?z21
   case z0 | z1 | z2 | z3 | z4 | z5 | z6 | z7 | z8 | z9 | z10 | z11 | z12 | z13 | z14 | z15 | z16 | z17 | z18 | z19 | z20 | z21=>k_is
  have f_measure:L2.FunAt (L2.KOf KX) mg "measure" ["a", "b"] My.s_measure:=by
   dsimp only [L2.KOf]
   refine' L2.funAt_mk KX G (fun _ _ _ _ _ _=>My.ar2 fun _ _=>rfl) ?a ?l ?c ?k
   case a | l | c | k=>k_is
  have f_share:L2.FunAt (L2.KOf KX) mg "share" ["top", "bottom"] My.s_share:=by
   dsimp only [L2.KOf]
   refine' L2.funAt_mk KX G (fun _ _ _ _ _ _=>My.ar2 fun _ _=>rfl) ?a ?l ?c ?k
   case a | l | c | k=>k_is
  have f_plus:L2.FunAt (L2.KOf KX) mg "plus" ["a", "b"] My.s_plus:=by
   dsimp only [L2.KOf]
   refine' L2.funAt_mk KX G (fun _ _ _ _ _ _=>My.ar2 fun _ _=>rfl) ?a ?l ?c ?k
   case a | l | c | k=>k_is
  have f_times:L2.FunAt (L2.KOf KX) mg "times" ["a", "b"] My.s_times:=by
   dsimp only [L2.KOf]
   refine' L2.funAt_mk KX G (fun _ _ _ _ _ _=>My.ar2 fun _ _=>rfl) ?a ?l ?c ?k
   case a | l | c | k=>k_is
  have f_total:L2.FunAt (L2.KOf KX) mg "total" ["some"] My.s_total:=by
   dsimp only [L2.KOf]
   refine' L2.funAt_mk KX G (fun _ _ _ _ _ _=>My.ar1 fun _=>rfl) ?a ?l ?c ?k
   case a | l | c | k=>k_is
  have f_parted:L2.FunAt (L2.KOf KX) mg "parted" ["top", "bottoms"] My.s_parted:=by
   dsimp only [L2.KOf]
   refine' L2.funAt_mk KX G (fun _ _ _ _ _ _=>My.ar2 fun _ _=>rfl) ?a ?l ?c ?k
   case a | l | c | k=>k_is
  have f_gathered:L2.FunAt (L2.KOf KX) mg "gathered" ["rows"] My.s_gathered:=by
   dsimp only [L2.KOf]
   refine' L2.funAt_mk KX G (fun _ _ _ _ _ _=>My.ar1 fun _=>rfl) ?a ?l ?c ?k
   case a | l | c | k=>k_is
  have f_summed:L2.FunAt (L2.KOf KX) mg "summed" ["rows"] My.s_summed:=by
   dsimp only [L2.KOf]
   refine' L2.funAt_mk KX G (fun _ _ _ _ _ _=>My.ar1 fun _=>rfl) ?a ?l ?c ?k
   case a | l | c | k=>k_is
  have f_spread_of:L2.FunAt (L2.KOf KX) mg "spread_of" ["weights", "bottoms"] My.s_spread_of:=by
   dsimp only [L2.KOf]
   refine' L2.funAt_mk KX G (fun _ _ _ _ _ _=>My.ar2 fun _ _=>rfl) ?a ?l ?c ?k
   case a | l | c | k=>k_is
  have f_ask_boxes_of:L2.FunAt (L2.KOf KX) mg "ask_boxes_of" ["net", "stand"] My.s_ask_boxes_of:=by
   dsimp only [L2.KOf]
   refine' L2.funAt_mk KX G (fun _ _ _ _ _ _=>My.ar2 fun _ _=>rfl) ?a ?l ?c ?k
   case a | l | c | k=>k_is
  have f_ask_few:L2.FunAt (L2.KOf KX) mg "ask_few" ["stands"] My.s_ask_few:=by
   dsimp only [L2.KOf]
   refine' L2.funAt_mk KX G (fun _ _ _ _ _ _=>My.ar1 fun _=>rfl) ?a ?l ?c ?k
   case a | l | c | k=>k_is
  have f_box_weights:L2.FunAt (L2.KOf KX) mg "box_weights" ["net", "stand"] My.s_box_weights:=by
   dsimp only [L2.KOf]
   refine' L2.funAt_mk KX G (fun _ _ _ _ _ _=>My.ar2 fun _ _=>rfl) ?a ?l ?c ?k
   case a | l | c | k=>k_is
  have f_next_stands:L2.FunAt (L2.KOf KX) mg "next_stands" ["net", "stand"] My.s_next_stands:=by
   dsimp only [L2.KOf]
   refine' L2.funAt_mk KX G (fun _ _ _ _ _ _=>My.ar2 fun _ _=>rfl) ?a ?l ?c ?k
   case a | l | c | k=>k_is
  have f_all_weights:L2.FunAt (L2.KOf KX) mg "all_weights" ["net"] My.s_all_weights:=by
   dsimp only [L2.KOf]
   refine' L2.funAt_mk KX G (fun _ _ _ _ _ _=>My.ar1 fun _=>rfl) ?a ?l ?c ?k
   case a | l | c | k=>k_is
  have f_put_on:L2.FunAt (L2.KOf KX) mg "put_on" ["net", "spread"] My.s_put_on:=by
   dsimp only [L2.KOf]
   refine' L2.funAt_mk KX G (fun _ _ _ _ _ _=>My.ar2 fun _ _=>rfl) ?a ?l ?c ?k
   case a | l | c | k=>k_is
  have f_after_on:L2.FunAt (L2.KOf KX) mg "after_on" ["net", "stand", "many"] My.s_after_on:=by
   dsimp only [L2.KOf]
   refine' L2.funAt_mk KX G (fun _ _ _ _ _ _=>My.ar3 fun _ _ _=>rfl) ?a ?l ?c ?k
   case a | l | c | k=>k_is
  have f_l_pen:L2.FunAt (L2.KOf KX) mg "_law_pen" ["_law_script"] My.s_l_pen:=by
   dsimp only [L2.KOf]
   refine' L2.funAt_mk KX G (fun _ _ _ _ _ _=>My.ar1 fun _=>rfl) ?a ?l ?c ?k
   case a | l | c | k=>k_is
  have f_l_draw:L2.FunAt (L2.KOf KX) mg "_law_draw" ["_law_pen_here", "_law_many"] My.s_l_draw:=by
   dsimp only [L2.KOf]
   refine' L2.funAt_mk KX G (fun _ _ _ _ _ _=>My.ar2 fun _ _=>rfl) ?a ?l ?c ?k
   case a | l | c | k=>k_is
  have f_l_measure:L2.FunAt (L2.KOf KX) mg "_law_measure" ["_law_a", "_law_b"] My.s_l_measure:=by
   dsimp only [L2.KOf]
   refine' L2.funAt_mk KX G (fun _ _ _ _ _ _=>My.ar2 fun _ _=>rfl) ?a ?l ?c ?k
   case a | l | c | k=>k_is
  have f_l_lowest:L2.FunAt (L2.KOf KX) mg "_law_lowest" ["_law_top", "_law_bottom"] My.s_l_lowest:=by
   dsimp only [L2.KOf]
   refine' L2.funAt_mk KX G (fun _ _ _ _ _ _=>My.ar2 fun _ _=>rfl) ?a ?l ?c ?k
   case a | l | c | k=>k_is
  have f_l_net:L2.FunAt (L2.KOf KX) mg "_law_net" ["_law_pen_here", "_law_n"] My.s_l_net:=by
   dsimp only [L2.KOf]
   refine' L2.funAt_mk KX G (fun _ _ _ _ _ _=>My.ar2 fun _ _=>rfl) ?a ?l ?c ?k
   case a | l | c | k=>k_is
  have f_l_stand:L2.FunAt (L2.KOf KX) mg "_law_stand" ["_law_pen_here", "_law_n", "_law_balls"] My.s_l_stand:=by
   dsimp only [L2.KOf]
   refine' L2.funAt_mk KX G (fun _ _ _ _ _ _=>My.ar3 fun _ _ _=>rfl) ?a ?l ?c ?k
   case a | l | c | k=>k_is
  have f_l_on:L2.FunAt (L2.KOf KX) mg "_law_on" ["_law_net_here", "_law_found"] My.s_l_on:=by
   dsimp only [L2.KOf]
   refine' L2.funAt_mk KX G (fun _ _ _ _ _ _=>My.ar2 fun _ _=>rfl) ?a ?l ?c ?k
   case a | l | c | k=>k_is
  have f_l_spread:L2.FunAt (L2.KOf KX) mg "_law_spread" ["_law_found"] My.s_l_spread:=by
   dsimp only [L2.KOf]
   refine' L2.funAt_mk KX G (fun _ _ _ _ _ _=>My.ar1 fun _=>rfl) ?a ?l ?c ?k
   case a | l | c | k=>k_is
  have f_l_word:L2.FunAt (L2.KOf KX) mg "_law_word" ["_law_ask"] My.s_l_word:=by
   dsimp only [L2.KOf]
   refine' L2.funAt_mk KX G (fun _ _ _ _ _ _=>My.ar1 fun _=>rfl) ?a ?l ?c ?k
   case a | l | c | k=>k_is
  have f_l_behind:L2.FunAt (L2.KOf KX) mg "_law_behind" ["_law_net_here", "_law_some"] My.s_l_behind:=by
   dsimp only [L2.KOf]
   refine' L2.funAt_mk KX G (fun _ _ _ _ _ _=>My.ar2 fun _ _=>rfl) ?a ?l ?c ?k
   case a | l | c | k=>k_is
  have f_l_due:L2.FunAt (L2.KOf KX) mg "_law_due" ["_law_net_here", "_law_some", "_law_many"] My.s_l_due:=by
   dsimp only [L2.KOf]
   refine' L2.funAt_mk KX G (fun _ _ _ _ _ _=>My.ar3 fun _ _ _=>rfl) ?a ?l ?c ?k
   case a | l | c | k=>k_is
  have f_l_all:L2.FunAt (L2.KOf KX) mg "_law_all" ["_law_n", "_law_balls"] My.s_l_all:=by
   dsimp only [L2.KOf]
   refine' L2.funAt_mk KX G (fun _ _ _ _ _ _=>My.ar2 fun _ _=>rfl) ?a ?l ?c ?k
   case a | l | c | k=>k_is
  have h_ML:∃ tk:Tok,mg "MOST_STANDS" = some (.int 500 tk):=by
   refine' My.mr_ML KX G ?a
   (case a=>first | k_is | exact rfl)
  obtain ⟨tkM,h_ML⟩:=h_ML
  refine' My.all_mk KX G hmg T (My.errN_mk KX G ?n ?n0 ?n1 ?n2 ?n3 ?n4 ?n5 ?n6 ?n7 ?n8) ?q2 ?q4 ⟨f_measure,f_share,f_plus,f_times,f_total,f_parted,f_gathered,f_summed,f_spread_of,f_ask_boxes_of,f_ask_few,f_box_weights,f_next_stands,f_all_weights,f_put_on,f_after_on,f_l_pen,f_l_draw,f_l_measure,f_l_lowest,f_l_net,f_l_stand,f_l_on,f_l_spread,f_l_word,f_l_behind,f_l_due,f_l_all⟩ h_ML ?a3 ?l3 ?c3 ?k3
  (case n=>k_is); (case n0=>k_is); (case n1=>k_is); (case n2=>k_is); (case n3=>k_is); (case n4=>k_is); (case n5=>k_is); (case n6=>k_is); (case n7=>k_is); (case n8=>k_is)
  (case q2=>kernel_rfl)
  (case q4=>kernel_rfl)
  (case a3=>k_is); (case l3=>k_is); (case c3=>k_is); (case k3=>k_is)

