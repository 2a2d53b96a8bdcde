import PyProof.Rows.All
import KE.KRevIter
import PyProof.FactsAll.range_2
import Wide.All
import OpenK.AllK
import Wide.FinOn
import PyProof.EqAt
import PyProof.EqKinds
import PyProof.NeKinds
import PyProof.TupleCall
import PyProof.CompFree
import PyProof.CompMap
import PyProof.ReprRoads
import PyProof.CallFns
import PyProof.ReprBulk
import PyProof.CompUse
import KE.KRevSl
import PyProof.Rows.SetFrom
import PyProof.AttrMissSeq
import KE.KDictOf
import PyProof.DictUpdate
import PyProof.ListRange
import PyProof.Rows.SumAny
import PyProof.Rows.SortRev
import PyProof.Rows.CallKwBuiltin
import PyProof.ListMulAny
import PyProof.TupleOps
import PyProof.ZipIter
import PyProof.Draws
import PyProof.TupleIter
import PyProof.EnumMake
import PyProof.DictCompW
import PyProof.DictItems
import PyProof.DictItemsLoops
import PyProof.ExcAttrAll.ValueError
import KE.KTryMore
import KE.KLam
import KE.KTupSum
import KE.KMinKey
import PyProof.FactsAll.tuple_0
import PyProof.FactsAll.tuple_2
import PyProof.FactsAll.tuple_3
import KE.KSortTup
import PyProof.DictValues
import PyProof.DictWalks
import PyProof.SumWalkG
import PyProof.CollectWalk
import PyProof.FactsAll.dict_values
import KE.KDictList
import KE.KItemsList
import PyProof.TupleKey
import PyProof.DictDisplay
import PyProof.DictTable
import PyProof.ReprDict
import PyProof.ReprNest
import PyProof.ReprReads
import PySem.Challenge.RW_emptierbox_k17_what_is_a_spread
set_option Elab.async false
set_option linter.all false
set_option maxRecDepth 100000
set_option maxHeartbeats 0
local macro_rules | `(tactic| ext) => `(tactic| first|rfl|decide|exact .inl rfl|exact .inr rfl|(intros; rfl))
local macro_rules | `(⋯) => `((by ext))
namespace L2
open PySem PySem.W PyProof.Rows
theorem headK {r:OpenRow}{q:Program}{H:Hook}{N:Nat}{d:DefRec}
  (top:LeftO r.prog q [] (fun s=>xlAt q [] s && recOk r.toRowW.records s) H.obs H.val N)
  (at0:defOf q r.name=some (d,[])) (here:r.prog.theDef r.name=some (d.params,d.body,d.scope)) (kwd:kwWritten? d.params.kwonlyargs d.params.kw_defaults=some [])
  (writ:(!r.writes || r.records.isEmpty)=true) (said:r.wellSaid=true) (looks:(chainsOk q && opensWell r.prog && (frees r.toRowW && r.within.isEmpty))=true) (bare:r.prog.bare)
  (prom:r.toRowW.promised) (walk:WalkO q [] (XL q []) H.says r.toRowW d [] fun f vs=>PySem.call f vs):r.Holds :=
 holds_open top H.of H.keeps (fun s e=>xl_of s (Bool.and_eq_true_iff.mp e).1) XL.keeps at0 here kwd (fun s e=>recFacts_of (Bool.and_eq_true_iff.mp e).2) writ said looks bare prom walk
end L2
def My.topv (i:Nat):PySem.Stmt:=PySem.Challenge.pw_emptierbox_k17_what_is_a_spread.main.body.getD i (.Pass ⟨0,0,0,0⟩)
noncomputable def My.qv:PySem.Program:={ PySem.Challenge.pw_emptierbox_k17_what_is_a_spread with main:={ PySem.Challenge.pw_emptierbox_k17_what_is_a_spread.main with body:=[My.topv 1,My.topv 3,My.topv 4,My.topv 6,My.topv 7,My.topv 8,My.topv 9,My.topv 11,My.topv 12,My.topv 13,My.topv 14,My.topv 16,My.topv 17,My.topv 18,My.topv 19,My.topv 20,My.topv 21,My.topv 22,My.topv 23,My.topv 24,My.topv 25,My.topv 26,My.topv 27,My.topv 28,My.topv 29,My.topv 30,My.topv 31] } }
section
open PySem PySem.W PyProof.Rows
local macro_rules | `(tactic| o_head $H)=>do
 let hw:=Lean.mkIdent `hw
 let hc:=Lean.mkIdent `hc
 `(tactic| (refine L2.headK (q:=My.qv) (H:=$H) (N:=9000) ?_ rfl rfl rfl rfl (by assumption) (by decide +kernel) ⟨rfl,rfl,rfl,rfl,rfl,by decide +kernel⟩ ?$hw ?$hc; (focus intro w; kernel_rfl)))
open_top My.hd for PySem.Challenge.rw_emptierbox_k17_what_is_a_spread
end
namespace MA
def gI (a b:Int):Int:=(Int.gcd a b:Int)
theorem qhD (a b:Int):0≤gI a b:=Int.natCast_nonneg _
theorem qlH (a b:Int):gI (if a < 0 then -a else a) (if b < 0 then -b else b)=gI a b:=by
 unfold gI Int.gcd
 congr 2 <;> (split <;> omega)
theorem qhC {a b:Int}(ha:0≤a):gI b (a % b)=gI a b:=by
 unfold gI
 congr 1
 rw [Int.gcd_comm a b]
 unfold Int.gcd
 have e:(a % b).natAbs=a.natAbs % b.natAbs:=by
  rw [Int.natAbs_emod_of_nonneg ha]
 rw [e,Nat.gcd_comm b.natAbs (a.natAbs % b.natAbs),<- Nat.gcd_rec]
theorem qhB {a:Int}(ha:0≤a):gI a 0=a:=by
 unfold gI
 rw [Int.gcd_zero_right]
 omega
theorem qbo {a b:Int}(hb:b≠0):0 < gI a b:=by
 have h:Int.gcd a b≠0:=fun h=>hb (Int.gcd_eq_zero_iff.mp h).2
 unfold gI; omega
theorem qfh {a b:Int}(hb:a≠0):0 < gI a b:=by
 have h:Int.gcd a b≠0:=fun h=>hb (Int.gcd_eq_zero_iff.mp h).1
 unfold gI; omega
theorem qdh (a b:Int):gI a b ∣ a:=Int.gcd_dvd_left ..
theorem qku (a b:Int):gI a b=gI b a:=by unfold gI; rw [Int.gcd_comm]
theorem qbw {t b:Int}(hb:0 < b):t / gI t b=(Rat.divInt t b).num/\b / gI t b=((Rat.divInt t b).den:Int):=by
 rw [Rat.num_divInt,Rat.den_divInt,if_neg (by omega),Int.sign_eq_one_of_pos hb,Int.one_mul,Int.gcd_comm b t]
 refine ⟨rfl,?_⟩
 unfold gI
 rw [Int.natCast_ediv]
 congr 1
 omega
theorem qjT (q r:Rat)(c top rest:Int)(hc:c=gI q.den r.den)(ht:top=q.num * ((r.den:Int) / c) + r.num * ((q.den:Int) / c))(hr:rest=gI top c) :
  top / rest=(q + r).num/\((q.den:Int) / c) * ((r.den:Int) / rest)=((q + r).den:Int):=by
 have hd:0 < q.den:=Nat.pos_of_ne_zero q.den_nz
 have he:0 < r.den:=Nat.pos_of_ne_zero r.den_nz
 have cg:c=((q.den.gcd r.den:Nat):Int):=by rw [hc]; rfl
 have rg:rest=((top.natAbs.gcd (q.den.gcd r.den):Nat):Int):=by
  rw [hr,cg]; rfl
 have tt:top=q.num * ((r.den / q.den.gcd r.den:Nat):Int) + r.num * ((q.den / q.den.gcd r.den:Nat):Int):=by
  rw [ht,cg,Int.natCast_ediv,Int.natCast_ediv]
 have key:(q + r).num=top / ((top.natAbs.gcd (q.den.gcd r.den):Nat):Int)/\(q + r).den=(q.den / q.den.gcd r.den) * r.den / top.natAbs.gcd (q.den.gcd r.den):=by
  rw [tt]
  have e:(q + r)=Rat.add q r:=rfl
  rw [e]
  delta Rat.add
  dsimp only
  split
  ·rename_i h
   rw [h]
   simp
  ·simp only [Rat.maybeNormalize_eq,Int.divExact_eq_ediv,and_self]
 rw [key.1,key.2,rg]
 refine ⟨rfl,?_⟩
 have d1:top.natAbs.gcd (q.den.gcd r.den) ∣ r.den:=Nat.dvd_trans (Nat.gcd_dvd_right ..) (Nat.gcd_dvd_right ..)
 rw [Nat.mul_div_assoc _ d1,Int.natCast_mul,Int.natCast_ediv,Int.natCast_ediv,cg]
theorem den_pos (q:Rat):(0:Int) < q.den:=by have:=Nat.pos_of_ne_zero q.den_nz; omega
theorem tup_eq (q r:Rat):(decide (q.num=r.num) && decide ((q.den:Int)=(r.den:Int)))=decide (q=r):=by
 rw [Bool.eq_iff_iff]
 simp only [Bool.and_eq_true,decide_eq_true_eq]
 constructor
 ·rintro ⟨h1,h2⟩; exact Rat.ext h1 (by omega)
 ·rintro rfl; exact ⟨rfl,rfl⟩
theorem qks (q:Rat):gI q.num q.den=1:=by
 unfold gI Int.gcd
 have:=q.reduced
 unfold Nat.Coprime at this
 simp [this]
end MA
namespace L2
open PySem PySem.Spec PyProof.Rows
abbrev Key:=Sum Int Str
def qfd:Key->Value->Bool
 | .inl k,v=>Value.isInt k v
 | .inr x,v=>Value.isStrOf x v
def keyH (w:World):Key->Int
 | .inl k=>hashInt k
 | .inr x=>hashStr w x
theorem qaG:∀ {k:Key} {v:Value},qfd k v=true->(∃ i t,k=Sum.inl i/\v=Value.int i t)\/(∃ x t,k=Sum.inr x/\v=Value.str x t)
 | .inl i,v,h=>by
  obtain ⟨t,e⟩:=Value.isInt_shape (k:=i) (v:=v) h
  exact .inl ⟨i,t,rfl,e⟩
 | .inr x,v,h=>by
  obtain ⟨t,e⟩:=Value.isStrOf_shape (x:=x) (v:=v) h
  exact .inr ⟨x,t,rfl,e⟩
theorem qhp (i:Int)(t:Tok):qfd (.inl i) (.int i t)=true:=by simp [qfd,Value.isInt]
theorem qho (x:Str)(t:Tok):qfd (.inr x) (.str x t)=true:=by simp [qfd,Value.isStrOf]
theorem qlr (a b:Int):decide ((Sum.inl a:Key)=Sum.inl b)=(a == b):=by
 by_cases e:a=b
 ·subst e; simp
 ·have h:¬ (Sum.inl a:Key)=Sum.inl b:=fun q=>e (Sum.inl.inj q)
  rw [decide_eq_false h]
  exact (beq_eq_false_iff_ne.mpr e).symm
theorem qlo (a b:Str):decide ((Sum.inr a:Key)=Sum.inr b)=decide (a=b):=by
 by_cases e:a=b
 ·subst e; simp
 ·have h:¬ (Sum.inr a:Key)=Sum.inr b:=fun q=>e (Sum.inr.inj q)
  rw [decide_eq_false h,decide_eq_false e]
theorem qlq (a:Int)(b:Str):decide ((Sum.inl a:Key)=Sum.inr b)=false:=decide_eq_false (fun q=>nomatch q)
theorem qlp (a:Str)(b:Int):decide ((Sum.inr a:Key)=Sum.inl b)=false:=decide_eq_false (fun q=>nomatch q)
def qaF (prog:Program)(w:World):PySem.KeyKind prog w Key where
 is:=qfd
 hash:=keyH w
 inj:=fun v a b ha hb=>by
  rcases qaG ha with ⟨i,t,rfl,rfl⟩ | ⟨x,t,rfl,rfl⟩
  ·rcases qaG hb with ⟨j,u,rfl,e⟩ | ⟨y,u,rfl,e⟩
   ·injection e with e1 _; rw [e1]
   ·exact nomatch e
  ·rcases qaG hb with ⟨j,u,rfl,e⟩ | ⟨y,u,rfl,e⟩
   ·exact nomatch e
   ·injection e with e1 _; rw [e1]
 byValue:=fun k v h=>by
  rcases qaG h with ⟨i,t,rfl,rfl⟩ | ⟨x,t,rfl,rfl⟩ <;> rfl
 pyHash:=fun hv h=>by
  rcases qaG hv with ⟨i,t,rfl,rfl⟩ | ⟨x,t,rfl,rfl⟩
  ·exact wpAny_pyHash_int h
  ·exact wpAny_pyHash_str h
 eqBool:=fun hu hv h=>by
  rcases qaG hu with ⟨i,t,rfl,rfl⟩ | ⟨x,t,rfl,rfl⟩
  ·rcases qaG hv with ⟨j,u,rfl,rfl⟩ | ⟨y,u,rfl,rfl⟩
   ·rw [qlr] at h; exact wpAny_eqBool_int h
   ·rw [qlq] at h; exact SeqAt.EqAt.int_str i t y u _ _ _ _ h
  ·rcases qaG hv with ⟨j,u,rfl,rfl⟩ | ⟨y,u,rfl,rfl⟩
   ·rw [qlp] at h; exact SeqAt.EqAt.str_int x t j u _ _ _ _ h
   ·rw [qlo] at h; exact wpAny_eqBool_str h
 «strs»:=fun k x t v h=>by
  rcases qaG h with ⟨i,u,rfl,e⟩ | ⟨y,u,rfl,e⟩
  ·exact nomatch e
  ·injection e with e1 _
   subst e1
   cases v <;> rfl
theorem qe9 (prog:Program)(w:World)(i:Int)(t:Tok):(qaF prog w).is (.inl i) (.int i t)=true:=qhp i t
theorem qe8 (prog:Program)(w:World)(x:Str)(t:Tok):(qaF prog w).is (.inr x) (.str x t)=true:=qho x t
inductive V where
 | non | bl (b:Bool) | int (i:Int) | str (x:Str) | byt (b:Array UInt8) | flt (b:UInt64) | ref (a:Addr) | ty (n:String)
 deriving DecidableEq
def RelV:V->Value->Prop
 | .non,u=>u=Value.none
 | .bl b,u=>u=Value.bool b
 | .int i,u=>∃ t,u=Value.int i t
 | .str x,u=>∃ t,u=Value.str x t
 | .byt b,u=>∃ t,u=Value.bytes b t
 | .flt b,u=>∃ t,u=Value.float b t
 | .ref a,u=>u=Value.ref a
 | .ty n,u=>u=Value.type n
abbrev Vals:List V->List Value->Prop:=Paired RelV
theorem Vals.length {xs:List V}{us:List Value}(r:Vals xs us):xs.length=us.length:=Paired.length r
theorem Vals.get:∀ {xs:List V} {us:List Value} {i:Nat} {x:V},Vals xs us->xs[i]?=some x->∃ u,us[i]?=some u/\RelV x u
 | _,_,_,_,.nil,e=>by simp at e
 | _,_,0,_,.cons r _,e=>by simp at e; subst e; exact ⟨_,rfl,r⟩
 | _,_,i + 1,x,.cons _ t,e=>by
  obtain ⟨u,h1,h2⟩:=Vals.get (i:=i) (x:=x) t (by simpa using e)
  exact ⟨u,by simpa using h1,h2⟩
theorem Vals.set {x:V}{u:Value}(r:RelV x u):∀ {xs:List V} {us:List Value} (i:Nat),Vals xs us->Vals (xs.set i x) (us.set i u)
 | _,_,_,.nil => .nil
 | _,_,0,.cons _ t => .cons r t
 | _,_,i + 1,.cons q t => .cons q (Vals.set r i t)
theorem Vals.append:∀ {xs ys:List V} {us ws:List Value},Vals xs us->Vals ys ws->Vals (xs ++ ys) (us ++ ws)
 | _,_,_,_,.nil,s=>s
 | _,_,_,_,.cons r t,s => .cons r (Vals.append t s)
theorem Vals.take:∀ {xs:List V} {us:List Value} (n:Nat),Vals xs us->Vals (xs.take n) (us.take n)
 | _,_,0,_ => .nil
 | _,_,_ + 1,.nil => .nil
 | _,_,n + 1,.cons r t => .cons r (Vals.take n t)
theorem Vals.drop:∀ {xs:List V} {us:List Value} (n:Nat),Vals xs us->Vals (xs.drop n) (us.drop n)
 | _,_,0,r=>r
 | _,_,_ + 1,.nil => .nil
 | _,_,n + 1,.cons _ t=>Vals.drop n t
def RelO:Option V->Option Value->Prop
 | some v,some u=>RelV v u
 | none,none=>True
 | _,_=>False
def KV {κ:Type}:List (κ × V)->List (κ × Value)->Prop:=Paired fun (p:κ × V) (q:κ × Value)=>p.1=q.1/\RelV p.2 q.2
def kV:Key->V
 | .inl i => .int i
 | .inr x => .str x
inductive HO where
 | lst (xs:List V)
 | tup (xs:List V)
 | dK (kvs:List (Key × V)) | dT (kvs:List (List Key × V))
 | set (S:Int->Bool) (n:Nat)
 | ins (C dx:Addr) (fs:List (Str × V))
 | own (x:Addr)
 | xd (fs:List (Str × V))
 | met (f x:Addr)
 | rng (lo hi:Int)
 | frz (o:Obj) (u:HO)
 | tbl (ps:Array Value)
 | tab (q:Str)
 | ext (φ:Heap->Prop)
abbrev Hp:=Addr->Option HO
def upd (H:Hp)(a:Addr)(o:HO):Hp:=fun b=>if b=a then some o else H b
theorem uS {H:Hp}{a:Addr}{o:HO}:upd H a o a=some o:=by unfold upd; rw [if_pos rfl]
theorem uE {H:Hp}{a b:Addr}{o:HO}(h:b≠a):upd H a o b=H b:=by unfold upd; rw [if_neg h]
theorem qgz {H:Hp}{a:Addr}{o u:HO}:upd (upd H a o) a u=upd H a u:=by
 funext b; unfold upd; split <;> rfl
theorem qiD {H:Hp}{a b:Addr}{o u:HO}(h:H a=some o)(h':H b=some u)(d:o≠u):a≠b:=by
 intro e; subst e; rw [h] at h'; exact d (Option.some.inj h')
theorem qaf {H:Hp}{a b:Addr}{o:HO}(h:H a=some o)(h':H b=none):a≠b:=by
 intro e; subst e; rw [h] at h'; cases h'
def qbI (h:Heap)(a:Addr)(items:Array Value):Prop:=∃ o,h.get? a=some o/\o.cls = .type "tuple" /\ ∃ n,o.data = .seq items n/\o.dict=none
theorem qbI.tup {h:Heap}{a:Addr}{items:Array Value}(x:qbI h a items):PyProof.Rows.IsTup h a items:=let ⟨o,e,c,n,d,_⟩:=x; ⟨o,e,c,n,d⟩
theorem qbI.new (h:Heap)(items:Array Value):qbI (h.push { cls := .type "tuple",data := .seq items }) h.objs.size items:=⟨_,Heap.get?_push_size _ rfl,rfl,_,rfl,rfl⟩
theorem qbI.lt {h:Heap}{a:Addr}{items:Array Value}(x:qbI h a items):a < h.objs.size:=let ⟨_,e,_⟩:=x; Heap.lt_size e
section
variable (P:Program)(w:World)
def qaV (H:Hp)(h:Heap)(a:Addr):HO->Prop
 | .lst xs=>xs.length≤sizeLine/\∃ (its:List Value) (n:Nat),Vals xs its/\h.get? a=some { cls := .type "list",data := .seq its.toArray n }
 | .tup xs=>xs.length≤sizeLine/\∃ its:List Value,Vals xs its/\qbI h a its.toArray
 | .dK kvs=>kvs.length≤sizeLine/\(a == sysModules)=false/\∃ vs,KV kvs vs/\h.DictOf (qaF P w) a vs
 | .dT kvs=>kvs.length≤sizeLine/\(a == sysModules)=false/\∃ xs:List (List Key × Addr × Value),
   Paired (fun (p:List Key × V) (q:List Key × Addr × Value)=>p.1=q.1/\H q.2.1=some (.tup (p.1.map kV))/\RelV p.2 q.2.2) kvs xs /\
   ∃ o es ep,h.get? a=some o/\o.ExactDict/\o.data = .dict es ep/\es.toList=xs.map (entryOfKey (tupleKind (qaF P w)))/\(xs.map (·.1)).Nodup
 | .set S n=>h.SetOf (intKind P w) a S n
 | .ins C dx fs=>H dx=some (.own a)/\fs.length≤1000/\dx≠a/\h.get? a=some (PySem.W.instObj C dx) /\
   ∃ mA,h.Ns1 dx mA/\(∀ f,RelO (fs.lookup f) (mA f))/\PySem.Within mA (fs.map (·.1))
 | .own _=>∃ o,h.get? a=some o
 | .xd fs=>∃ mA,h.Ns1 a mA/\∀ f,RelO (fs.lookup f) (mA f)
 | .rng lo hi=>∃ t u v,h.get? a=some { cls := .type "range",data := .fields #[.int lo t,.int hi u,.int 1 v] }
 | .frz o u=>h.get? a=some o/\qaV H h a u
 | .tbl ps=>h.get? a=some { cls := .none,data := .fields ps }
 | .tab q=>∃ ps:Array Value,h.get? a=some { cls := .none,data := .fields ps }/\TriplesOk ps.toList/\∀ pos cv,codeAmong pos ps.toList=some cv ->
   ∃ c oc vs t,cv = .ref c/\H c=some (.frz oc (.own 0))/\oc.data = .fields vs/\vs[1]?=some (.str q t)
 | .met f x=>h.get? a=some (PySem.W.methodObj (.ref f) (.ref x))
 | .ext φ=>φ h/\(∃ o,h.get? a=some o)/\∀ h1 h2:Heap,φ h1->(∀ o,h1.get? a=some o->h2.get? a=some o)->φ h2
def HOk (H:Hp)(h:Heap):Prop:=∀ a o,H a=some o->qaV P w H h a o
end
section
variable {P:Program}{w:World}{H H':Hp}{h h':Heap}{a:Addr}{o:HO}
theorem qaV.lt (x:qaV P w H h a o):a < h.objs.size:=by
 cases o with
 | lst xs=>obtain ⟨_,_,_,_,e⟩:=x; exact Heap.lt_size e
 | tup xs=>obtain ⟨_,_,_,p⟩:=x; exact p.lt
 | dK kvs=>obtain ⟨_,_,_,_,o,_,_,e,_⟩:=x; exact Heap.lt_size e
 | dT kvs=>obtain ⟨_,_,_,_,o,_,_,e,_⟩:=x; exact Heap.lt_size e
 | set S n=>obtain ⟨o,_,_,_,e,_⟩:=x; exact Heap.lt_size e
 | ins C dx fs=>obtain ⟨_,_,_,e,_⟩:=x; exact Heap.lt_size e
 | own y=>obtain ⟨_,e⟩:=x; exact Heap.lt_size e
 | xd fs=>obtain ⟨_,⟨_,_,_,e,_⟩,_⟩:=x; exact Heap.lt_size e
 | rng lo hi=>obtain ⟨_,_,_,e⟩:=x; exact Heap.lt_size e
 | frz ob u=>obtain ⟨e,_⟩:=x; exact Heap.lt_size e
 | tbl ps=>exact Heap.lt_size (show h.get? a=some _ from x)
 | tab q=>obtain ⟨_,e,_⟩:=x; exact Heap.lt_size e
 | met f y=>exact Heap.lt_size (show h.get? a=some _ from x)
 | ext φ=>obtain ⟨_,⟨_,e⟩,_⟩:=x; exact Heap.lt_size e
theorem Paired.mapP {α β:Type}{F G:α->β->Prop}:∀ {l₁:List α} {l₂:List β},Paired F l₁ l₂->(∀ a b,F a b->G a b)->Paired G l₁ l₂
 | _,_,.nil,_ => .nil
 | _,_,.cons r t,f => .cons (f _ _ r) (Paired.mapP t f)
theorem Paired.imp' {α β:Type}{F G:α->β->Prop}(f:∀ a b,F a b->G a b){l₁:List α}{l₂:List β}(r:Paired F l₁ l₂):Paired G l₁ l₂:=Paired.mapP r f
theorem qaV.stay (x:qaV P w H h a o)(k:∀ b u,(b=a\/H b=some (.own a))->h.get? b=some u->h'.get? b=some u)
  (ho:∀ b,H b=some (.own a)->H' b=some (.own a)) (ht:∀ b xs,H b=some (.tup xs)->H' b=some (.tup xs)) (hz:∀ b ob,H b=some (.frz ob (.own 0))->H' b=some (.frz ob (.own 0)):=by exact fun _ _ q=>q):qaV P w H' h' a o:=by
 induction o with
 | lst xs=>obtain ⟨z,its,n,r,e⟩:=x; exact ⟨z,its,n,r,k _ _ (.inl rfl) e⟩
 | tup xs=>obtain ⟨z,its,r,ob,e,c⟩:=x; exact ⟨z,its,r,ob,k _ _ (.inl rfl) e,c⟩
 | dK kvs=>obtain ⟨z,y,vs,r,ob,es,ep,e,c⟩:=x; exact ⟨z,y,vs,r,ob,es,ep,k _ _ (.inl rfl) e,c⟩
 | dT kvs =>
  obtain ⟨z,y,xs,r,ob,es,ep,e,c⟩:=x
  exact ⟨z,y,xs,Paired.mapP r fun p q z=>⟨z.1,ht _ _ z.2.1,z.2.2⟩,ob,es,ep,k _ _ (.inl rfl) e,c⟩
 | set S n=>obtain ⟨ob,es,ep,t,e,c⟩:=x; exact ⟨ob,es,ep,t,k _ _ (.inl rfl) e,c⟩
 | ins C dx fs =>
  obtain ⟨d,z,ne,e,mA,⟨od,es,ep,e2,c⟩,r⟩:=x
  exact ⟨ho _ d,z,ne,k _ _ (.inl rfl) e,mA,⟨od,es,ep,k _ _ (.inr d) e2,c⟩,r⟩
 | own y=>obtain ⟨ob,e⟩:=x; exact ⟨ob,k _ _ (.inl rfl) e⟩
 | xd fs=>obtain ⟨mA,⟨od,es,ep,e,c⟩,r⟩:=x; exact ⟨mA,⟨od,es,ep,k _ _ (.inl rfl) e,c⟩,r⟩
 | rng lo hi=>obtain ⟨t,u,v,e⟩:=x; exact ⟨t,u,v,k _ _ (.inl rfl) e⟩
 | frz ob u ih=>obtain ⟨e,q⟩:=x; exact ⟨k _ _ (.inl rfl) e,ih q⟩
 | tab q =>
  obtain ⟨ps,e,tr,cs⟩:=x
  refine ⟨ps,k a _ (.inl rfl) e,tr,fun pos cv hc=>?_⟩
  obtain ⟨c,oc,vs,t,h1,h2,h3⟩:=cs pos cv hc
  exact ⟨c,oc,vs,t,h1,hz c oc h2,h3⟩
 | tbl ps =>
  have e:h.get? a=some { cls := .none,data := .fields ps }:=x
  show h'.get? a=some { cls := .none,data := .fields ps }
  exact k a _ (.inl rfl) e
 | met f y =>
  have e:h.get? a=some (PySem.W.methodObj (.ref f) (.ref y)):=x
  show h'.get? a=some (PySem.W.methodObj (.ref f) (.ref y))
  exact k a _ (.inl rfl) e
 | ext φ=>obtain ⟨p,⟨o,e⟩,st⟩:=x; exact ⟨st _ _ p fun o q=>k _ _ (.inl rfl) q,⟨o,k _ _ (.inl rfl) e⟩,st⟩
theorem HOk.lt (x:HOk P w H h)(e:H a=some o):a < h.objs.size:=(x a o e).lt
theorem HOk.fresh (x:HOk P w H h)(e:h.objs.size≤a):H a=none:=by
 cases q:H a with
 | none=>rfl
 | some u=>exact absurd (Nat.lt_of_lt_of_le (x.lt q) e) (Nat.lt_irrefl _)
theorem HOk.kept (x:HOk P w H h)(k:∀ b u,h.get? b=some u->h'.get? b=some u):HOk P w H h':=fun a o e =>
 (x a o e).stay (fun b u _ q=>k b u q) (fun _ q=>q) fun _ _ q=>q
theorem HOk.laid (x:HOk P w H h)(k:∀ b u,h.get? b=some u->h'.get? b=some u)(hp:h.objs.size≤a)(new:qaV P w (upd H a o) h' a o):HOk P w (upd H a o) h':=fun b u e=>by
 have hn:=x.fresh hp
 by_cases hb:b=a
 ·subst hb; rw [uS] at e; cases e; exact new
 ·rw [uE hb] at e
  exact (x b u e).stay (fun c v _ q=>k c v q) (fun c q=>by rw [uE (qaf q hn)]; exact q) (fun c xs q=>by rw [uE (qaf q hn)]; exact q) fun c ob q=>by rw [uE (qaf q hn)]; exact q
end
def Rd (H:Hp)(a:Addr)(u:HO):Prop:=H a=some u\/∃ o,H a=some (.frz o u)
theorem Rd.ok {P:Program}{w:World}{H:Hp}{h:Heap}{a:Addr}{u:HO}(r:Rd H a u)(x:HOk P w H h):qaV P w H h a u:=by
 rcases r with r | ⟨o,r⟩
 ·exact x a u r
 ·obtain ⟨_,q⟩:=x a _ r
  exact q
def Mut:Option HO->Prop
 | some (.lst _)=>True
 | some (.dK _)=>True
 | some (.dT _)=>True
 | some (.set _ _)=>True
 | some (.ins _ _ _)=>True
 | some (.ext _)=>True
 | some (.tab _)=>True
 | _=>False
section
variable {P:Program}{w:World}{H:Hp}{h h':Heap}{x e:Addr}{o':HO}
theorem HOk.write (ok:HOk P w H h)(mu:Mut (H x))(he:e=x\/H e=some (.own x))(k:∀ b u,b≠e->h.get? b=some u->h'.get? b=some u)(heo:∃ u,h'.get? e=some u)
  (new:qaV P w (upd H x o') h' x o'):HOk P w (upd H x o') h':=fun b u q=>by
 have nown:∀ c y,H c=some (.own y)->c≠x:=fun c y r z=>by subst z; rw [r] at mu; exact mu
 have ntup:∀ c xs,H c=some (.tup xs)->c≠x:=fun c xs r z=>by subst z; rw [r] at mu; exact mu
 by_cases hb:b=x
 ·subst hb; rw [uS] at q; cases q; exact new
 ·rw [uE hb] at q
  by_cases hbe:b=e
  ·have q':H b=some (.own x):=by
    rcases he with z | z
    ·exact absurd (hbe.trans z) hb
    ·rw [hbe]; exact z
   rw [q] at q'; cases q'
   obtain ⟨v,hv⟩:=heo
   exact ⟨v,by rw [hbe]; exact hv⟩
  ·refine (ok b u q).stay (fun c v hc r=>k c v ?_ r) (fun c r=>by rw [uE (nown c b r)]; exact r) (fun c xs r=>by rw [uE (ntup c xs r)]; exact r) (fun c ob r=>by rw [uE (fun z=>by subst z; rw [r] at mu; exact mu)]; exact r)
   rcases hc with rfl | hc
   ·exact hbe
   ·rintro rfl
    rcases he with z | z
    ·exact nown c b hc z
    ·rw [hc] at z; cases z; exact hb rfl
end
structure Un (fs ex:List Addr)(H H':Hp)(h h':Heap):Prop where
 keep:∀ b o,h.get? b=some o->H b=none->b ∉ fs->b ∉ ex->h'.get? b=some o
 slot:∀ b o,h.get? b=some o->H b=none->b∈fs->b ∉ ex->∃ sl,h'.get? b=some { o with slots:=sl }
 free:∀ b o,h.get? b=some o->H b=none->b ∉ ex->H' b=none
 there:∀ b o,h.get? b=some o->b ∉ ex->∃ o',h'.get? b=some o'
 tups:∀ b xs,H b=some (.tup xs)->H' b=some (.tup xs)
 frzs:∀ b o u,H b=some (.frz o u)->H' b=some (.frz o u)
 tbls:∀ b ps,H b=some (.tbl ps)->∃ more,H' b=some (.tbl (ps ++ more))
section
variable {fs fs' ex ex':List Addr}{H H1 H2:Hp}{h h1 h2 h':Heap}{a x e:Addr}{o:HO}
theorem Un.any (u:Un fs ex H H1 h h1){b:Addr}{ob:Obj}(q:h.get? b=some ob)(n:H b=none)(hx:b ∉ ex):∃ sl,h1.get? b=some { ob with slots:=sl }:=by
 by_cases hb:b∈fs
 ·exact u.slot b ob q n hb hx
 ·exact ⟨ob.slots,u.keep b ob q n hb hx⟩
theorem Un.kept (k:∀ b u,h.get? b=some u->h'.get? b=some u):Un fs ex H H h h' :=
 ⟨fun b ob q _ _ _=>k b ob q,fun b ob q _ _ _=>⟨ob.slots,k b ob q⟩,fun _ _ _ n _=>n,fun b ob q _=>⟨ob,k b ob q⟩,fun _ _ q=>q,fun _ _ _ q=>q,fun _ ps q=>⟨#[],by rw [q]; simp⟩⟩
theorem Un.refl:Un fs ex H H h h:=Un.kept fun _ _ q=>q
theorem Un.laid (k:∀ b u,h.get? b=some u->h'.get? b=some u)(hp:h.objs.size≤a)(hn:H a=none):Un fs ex H (upd H a o) h h' where
 keep:=fun b u q _ _ _=>k b u q
 slot:=fun b u q _ _ _=>⟨u.slots,k b u q⟩
 free:=fun b u q n _=>by rw [uE (Nat.ne_of_lt (Nat.lt_of_lt_of_le (Heap.lt_size q) hp))]; exact n
 there:=fun b u q _=>⟨u,k b u q⟩
 tups:=fun b xs q=>by rw [uE (qaf q hn)]; exact q
 frzs:=fun b u xs q=>by rw [uE (qaf q hn)]; exact q
 tbls:=fun b ps q=>⟨#[],by rw [uE (qaf q hn),q]; simp⟩
theorem Un.write (mu:Mut (H x))(he:e=x\/H e=some (.own x))(k:∀ b u,b≠e->h.get? b=some u->h'.get? b=some u)(heo:∃ u,h'.get? e=some u):Un fs ex H (upd H x o) h h':=by
 have hx:∀ b,H b=none->b≠x:=fun b n z=>by subst z; rw [n] at mu; exact mu
 have hb:∀ b,H b=none->b≠e:=fun b n z=>by
  subst z
  rcases he with r | r
  ·exact hx b n r
  ·rw [n] at r; cases r
 have hm:∀ b u,H b=some u->¬ Mut (some u)->b≠x:=fun b u q nm z=>by subst z; rw [q] at mu; exact nm mu
 refine ⟨fun b u q n _ _=>k b u (hb b n) q,fun b u q n _ _=>⟨u.slots,k b u (hb b n) q⟩,fun b u q n _=>by rw [uE (hx b n)]; exact n,fun b u q _=>?_,
  fun b xs q=>by rw [uE (hm b _ q fun z=>z)]; exact q,fun b u xs q=>by rw [uE (hm b _ q fun z=>z)]; exact q,fun b ps q=>⟨#[],by rw [uE (hm b _ q fun z=>z),q]; simp⟩⟩
 by_cases hbe:b=e
 ·subst hbe; exact heo
 ·exact ⟨u,k b u hbe q⟩
end
def trk (h:Heap)(H:Hp):List Addr:=(List.range h.objs.size).filter fun a=>(H a).isSome
def hidT (h:Heap)(H:Hp):Heap:=PySem.W.hideAll h (trk h H)
theorem qhy (h:Heap)(H:Hp):(hidT h H).objs.size=h.objs.size:=PySem.W.hideAll_size _ _
theorem qiM {h:Heap}{H:Hp}{b:Addr}{o:Obj}(e:h.get? b=some o)(n:H b=none):(hidT h H).get? b=some o :=
 PySem.W.hideAll_get _ e fun hm=>by
  have q:(H b).isSome=true:=(List.mem_filter.mp hm).2
  rw [n] at q; simp at q
theorem qke {h:Heap}{H:Hp}{b:Addr}{o:Obj}(e:(hidT h H).get? b=some o):h.get? b=some o/\H b=none:=by
 have e':h.get? b=some o:=PySem.W.of_hideAll (trk h H) e
 refine ⟨e',?_⟩
 cases q:H b with
 | none=>rfl
 | some x =>
  have hm:b∈trk h H:=List.mem_filter.mpr ⟨List.mem_range.mpr (Heap.lt_size e'),by simp [q]⟩
  have z:(hidT h H).get? b=none:=PySem.W.hideAll_none (trk h H) hm
  rw [z] at e; cases e
structure Mod (K:PySem.W.Frag)(mg:Str->Option Value)(base:Heap):Prop where
 kin:K.In base
 glob:base.Ns mainGlobals mg
 blt:∃ mb,base.Ns builtinsNs mb/\∀ x:Str,x ≠ "__name__" -> mb x=bootBuiltins x
 nolimit:base.NoLimit
structure Cx where
 prog:Program
 w:World
 K:PySem.W.Frag
 mg:Str->Option Value
 base:Heap
 A:Around
 N:List Str
 s₀:Shared
 H₀:Hp
 env:Env
 outer:List Env
 stack:List Env
 ex:List Addr
 fn:Str->Bool
 calm:Bool
 pn:List (Addr × Obj)
 xe:Value->Shared->Prop
def frs (l:List Env):List Addr:=l.filterMap (·.frame)
abbrev Cx.fs (X:Cx):List Addr:=frs X.outer
def Vis (sc:Scope)(x:Str):Prop:=sc.names.lookup x=some .local\/sc.names.lookup x=some .cell\/sc.names.lookup x=some .free
def Loc (sc:Scope)(x:Str):Prop:=sc.names.lookup x=some .local\/sc.names.lookup x=some .cell
def Look (env:Env)(h:Heap)(m:Str->Option Value)(x:Str)(u:Value):Prop :=
 (env.kindOf x=some .local/\m x=some u)\/((env.kindOf x=some .cell\/env.kindOf x=some .free)/\∃ c,env.cells.lookup x=some c/\h.IsCell c (some u))
structure Cx.Ok (X:Cx):Prop where
 mod:Mod X.K X.mg X.base
 kind:X.env.scope.kind = .function
 glob:X.env.globals=mainGlobals
 blt:X.env.builtins=builtinsNs
 above:X.s₀.heap.objs.size≤X.env.locals
 inj:∀ x y c,X.env.cells.lookup x=some c->X.env.cells.lookup y=some c->x=y
 has:∀ x,(X.env.kindOf x=some .cell\/X.env.kindOf x=some .free)->∃ c,X.env.cells.lookup x=some c
 cab:∀ x c,X.fn x=true->X.env.cells.lookup x=some c->X.s₀.heap.objs.size≤c
 hd:X.calm=true->X.A.handled=none
 frames:X.A.frames=some X.stack
 stk:X.stack=X.outer\/(X.stack=X.env :: X.outer/\X.env.frame=some X.env.locals)
 exf:∀ b∈X.ex,b≠X.env.locals/\∀ x c,X.env.cells.lookup x=some c->c≠b
 bs:∀ b o,X.base.get? b=some o->X.s₀.heap.get? b=some o/\X.H₀ b=none
 bsz:X.base.objs.size≤X.s₀.heap.objs.size
 noex:∀ b o,X.base.get? b=some o->b ∉ X.ex
 exfs:∀ b∈X.ex,b ∉ X.fs
 funs:X.s₀.heap.FunFrames X.base X.outer
 frf:∀ b∈X.fs,X.H₀ b=none
structure Inv (X:Cx)(pins:List (Addr × Obj))(σ:List (Option V))(H:Hp)(s:Shared):Prop where
 ok:X.Ok
 os:s.os=X.s₀.os
 bare:AllBare s.gens
 base:Un X.fs X.ex X.H₀ H X.s₀.heap s.heap
 loc:∃ m,s.heap.Ns X.env.locals m/\∀ (i:Nat) (x:Str) (v:V),X.N[i]?=some x->σ[i]?=some (some v)->Vis X.env.scope x->∃ u,RelV v u/\Look X.env s.heap m x u
 cell:∀ x c,X.env.cells.lookup x=some c->∃ v,s.heap.IsCell c v
 free:H X.env.locals=none
 freeC:∀ x c,X.env.cells.lookup x=some c->H c=none
 pin:∀ p∈X.pn ++ pins,s.heap.get? p.1=some p.2/\H p.1=none/\p.1≠X.env.locals/\p.1 ∉ X.fs/\∀ v,p.2.data ≠ .cell v
 hok:HOk X.prog X.w H s.heap
 len:σ.length=X.N.length
section
variable {X:Cx}{pins:List (Addr × Obj)}{σ:List (Option V)}{H H':Hp}{s:Shared}{h':Heap}
theorem Cx.Ok.nofr (ok:X.Ok){b:Addr}{o:Obj}(e:X.base.get? b=some o):b ∉ X.fs:=fun hb=>by
 have:=(ok.funs.mem hb).1
 rw [e] at this; cases this
theorem Inv.bs (I:Inv X pins σ H s):∀ b o,X.base.get? b=some o->s.heap.get? b=some o/\H b=none:=fun b o e =>
 ⟨I.base.keep b o (I.ok.bs b o e).1 (I.ok.bs b o e).2 (I.ok.nofr e) (I.ok.noex b o e),I.base.free b o (I.ok.bs b o e).1 (I.ok.bs b o e).2 (I.ok.noex b o e)⟩
theorem Inv.bk (I:Inv X pins σ H s):∀ b o,X.base.get? b=some o->s.heap.get? b=some o:=fun b o e=>(I.bs b o e).1
theorem Inv.mod (I:Inv X pins σ H s):Mod X.K X.mg X.base:=I.ok.mod
theorem Inv.kIn (I:Inv X pins σ H s):X.K.In s.heap:=I.ok.mod.kin.keeps I.bk
theorem Inv.lt (I:Inv X pins σ H s):X.env.locals < s.heap.objs.size:=let ⟨_,hn,_⟩:=I.loc; hn.lt
theorem Inv.sz (I:Inv X pins σ H s):X.s₀.heap.objs.size≤s.heap.objs.size:=Nat.le_trans I.ok.above (Nat.le_of_lt I.lt)
theorem Inv.nofs (I:Inv X pins σ H s){a:Addr}(h:s.heap.objs.size≤a):a ∉ X.fs:=fun hb=>by
 obtain ⟨_,o,ho,_⟩:=I.ok.funs.mem hb
 exact absurd (Nat.lt_of_lt_of_le (Heap.lt_size ho) (Nat.le_trans I.sz h)) (Nat.lt_irrefl _)
theorem Inv.cne (I:Inv X pins σ H s):∀ x c,X.env.cells.lookup x=some c->c≠X.env.locals:=fun x c e z=>by
 obtain ⟨v,o,ho,hd⟩:=I.cell x c e
 obtain ⟨m,⟨o',es,ep,ho',hd',_⟩,_⟩:=I.loc
 rw [z,ho'] at ho; cases ho; rw [hd'] at hd; cases hd
theorem Inv.funs (I:Inv X pins σ H s):s.heap.FunFrames X.base X.outer:=by
 have all:∀ (l:List Env),(∀ b∈frs l,b∈X.fs)->X.s₀.heap.FunFrames X.base l->s.heap.FunFrames X.base l:=by
  intro l
  induction l with
  | nil=>intro _ _; trivial
  | cons env r ih =>
   intro hs hl
   obtain ⟨hk,⟨L,o,hf,hn,ho,hd⟩,hr⟩:=hl
   have hL:L∈X.fs:=hs L (by unfold frs; rw [List.filterMap_cons,hf]; exact List.mem_cons_self)
   obtain ⟨sl,e⟩:=I.base.slot L o ho (I.ok.frf L hL) hL fun z=>I.ok.exfs L z hL
   exact ⟨hk,⟨L,_,hf,hn,e,hd⟩,ih (fun b hb=>hs b (by unfold frs; rw [List.filterMap_cons,hf]; exact List.mem_cons_of_mem _ hb)) hr⟩
 exact all X.outer (fun _ hb=>hb) I.ok.funs
theorem Inv.stack (I:Inv X pins σ H s):s.heap.FunFrames X.base X.stack:=by
 rcases I.ok.stk with e | ⟨e,hf⟩
 ·rw [e]; exact I.funs
 ·rw [e]
  obtain ⟨m,hn,_⟩:=I.loc
  refine .cons (by rw [I.ok.kind]; decide) hf hn ?_ I.funs
  exact Heap.get?_none_of_le (Nat.le_trans I.ok.bsz I.ok.above)
theorem Inv.stkSub (I:Inv X pins σ H s):∀ b∈frs X.stack,b∈X.env.locals :: X.fs:=fun b hb=>by
 rcases I.ok.stk with e | ⟨e,hf⟩
 ·rw [e] at hb; exact List.mem_cons_of_mem _ hb
 ·rw [e] at hb
  unfold frs at hb
  rw [List.filterMap_cons,hf] at hb
  exact hb
theorem Inv.stkFree (I:Inv X pins σ H s):∀ b∈frs X.stack,H b=none:=fun b hb=>by
 rcases List.mem_cons.mp (I.stkSub b hb) with e | hb
 ·rw [e]; exact I.free
 ·obtain ⟨_,o,ho,_⟩:=I.ok.funs.mem hb
  exact I.base.free b o ho (I.ok.frf b hb) fun z=>I.ok.exfs b z hb
theorem Inv.step {g':Array GenState}{t':Nat}{d':Drawn}{ch:List Addr}(I:Inv X pins σ H s)
  (hch:∀ b∈ch,(b∈X.ex\/X.s₀.heap.objs.size≤b)/\b≠X.env.locals/\(∀ x c,X.env.cells.lookup x=some c->c≠b)/\∀ p∈X.pn ++ pins,p.1≠b)
  (keep:∀ b o,b≠X.env.locals->b ∉ X.fs->b ∉ ch->s.heap.get? b=some o->H b=none->h'.get? b=some o)
  (slot:∀ b o,b≠X.env.locals->b∈X.fs->b ∉ ch->s.heap.get? b=some o->H b=none->∃ sl,h'.get? b=some { o with slots:=sl }) (free:∀ b o,b ∉ ch->s.heap.get? b=some o->H b=none->H' b=none)
  (there:∀ b o,b ∉ ch->s.heap.get? b=some o->∃ o',h'.get? b=some o')
  (tups:∀ b xs,H b=some (.tup xs)->H' b=some (.tup xs)) (frzs:∀ b o u,H b=some (.frz o u)->H' b=some (.frz o u)) (tbls:∀ b ps,H b=some (.tbl ps)->∃ more,H' b=some (.tbl (ps ++ more)))
  (ns:∀ m,s.heap.Ns X.env.locals m->h'.Ns X.env.locals m) (hok:HOk X.prog X.w H' h') (hg:AllBare g') :
  Inv X pins σ H' { s with heap:=h',gens:=g',drawn:=d',toks:=t' }:=by
 have neL:∀ b o,X.s₀.heap.get? b=some o->b≠X.env.locals:=fun b o e=>Nat.ne_of_lt (Nat.lt_of_lt_of_le (Heap.lt_size e) I.ok.above)
 have neC:∀ b o,X.s₀.heap.get? b=some o->b ∉ X.ex->b ∉ ch:=fun b o e hx hb=>by
  rcases (hch b hb).1 with z | z
  ·exact hx z
  ·exact absurd (Nat.lt_of_lt_of_le (Heap.lt_size e) z) (Nat.lt_irrefl _)
 have cellK:∀ x c,X.env.cells.lookup x=some c->∀ v,s.heap.IsCell c v->h'.IsCell c v:=fun x c e v ⟨o,ho,hd⟩=>by
  have nch:c ∉ ch:=fun z=>(hch c z).2.2.1 x c e rfl
  by_cases hc:c∈X.fs
  ·obtain ⟨sl,q⟩:=slot c o (I.cne x c e) hc nch ho (I.freeC x c e)
   exact ⟨_,q,hd⟩
  ·exact ⟨o,keep c o (I.cne x c e) hc nch ho (I.freeC x c e),hd⟩
 refine ⟨I.ok,I.os,hg,⟨fun b o e n hb hx=>?_,fun b o e n hb hx=>?_,fun b o e n hx=>?_,fun b o e hx=>?_,fun b xs e=>tups b xs (I.base.tups b xs e),fun b o xs e=>frzs b o xs (I.base.frzs b o xs e),fun b ps e=>?_⟩,?_,fun x c e=>?_,?_,fun x c e=>?_,fun p hp=>?_,hok,I.len⟩
 ·exact keep b o (neL b o e) hb (neC b o e hx) (I.base.keep b o e n hb hx) (I.base.free b o e n hx)
 ·obtain ⟨sl,e1⟩:=I.base.slot b o e n hb hx
  obtain ⟨sl',e2⟩:=slot b _ (neL b o e) hb (neC b o e hx) e1 (I.base.free b o e n hx)
  exact ⟨sl',e2⟩
 ·obtain ⟨o',e1⟩:=I.base.there b o e hx
  exact free b o' (neC b o e hx) e1 (I.base.free b o e n hx)
 ·obtain ⟨o',e1⟩:=I.base.there b o e hx
  exact there b o' (neC b o e hx) e1
 ·obtain ⟨m1,e1⟩:=I.base.tbls b ps e
  obtain ⟨m2,e2⟩:=tbls b _ e1
  exact ⟨m1 ++ m2,by rw [e2,Array.append_assoc]⟩
 ·obtain ⟨m,hn,hl⟩:=I.loc
  refine ⟨m,ns m hn,fun i x v e1 e2 e3=>?_⟩
  obtain ⟨u,r,l⟩:=hl i x v e1 e2 e3
  refine ⟨u,r,?_⟩
  rcases l with l | ⟨k,c,e,z⟩
  ·exact .inl l
  ·exact .inr ⟨k,c,e,cellK x c e _ z⟩
 ·obtain ⟨v,z⟩:=I.cell x c e
  exact ⟨v,cellK x c e v z⟩
 ·obtain ⟨m,⟨o,_,_,ho,_⟩,_⟩:=I.loc
  exact free _ o (fun z=>(hch _ z).2.1 rfl) ho I.free
 ·obtain ⟨v,o,ho,hd⟩:=I.cell x c e
  exact free c o (fun z=>(hch c z).2.2.1 x c e rfl) ho (I.freeC x c e)
 ·obtain ⟨e,n,ne,nf,d⟩:=I.pin p hp
  have nch:p.1 ∉ ch:=fun z=>(hch p.1 z).2.2.2 p hp rfl
  exact ⟨keep p.1 p.2 ne nf nch e n,free p.1 p.2 nch e n,ne,nf,d⟩
theorem Inv.un {t':Nat}(I:Inv X pins σ H s)(u:Un X.fs [] H H' s.heap h')(hok:HOk X.prog X.w H' h'):Inv X pins σ H' { s with heap:=h',toks:=t' }:=by
 obtain ⟨m,⟨o,es,ep,ho,r⟩,_⟩:=id I.loc
 obtain ⟨sl,hL⟩:=u.any ho I.free (by simp)
 exact I.step (g':=s.gens) (d':=s.drawn) (ch:=[]) (fun _ z=>nomatch z) (fun b o _ hb _ e n=>u.keep b o e n hb (by simp)) (fun b o _ hb _ e n=>u.slot b o e n hb (by simp)) (fun b o _ e n=>u.free b o e n (by simp)) (fun b o _ e=>u.there b o e (by simp)) u.tups u.frzs u.tbls (fun m' hm=>by
  obtain ⟨o',es',ep',ho',r'⟩:=hm
  rw [ho] at ho'; cases ho'
  exact ⟨_,es',ep',hL,r'⟩) hok I.bare
theorem Inv.call {g':Array GenState}{t':Nat}{d':Drawn}{ch:List Addr}(I:Inv X pins σ H s)(u:Un (frs X.stack) ch H H' s.heap h')(hok:HOk X.prog X.w H' h')(hg:AllBare g')
  (hch:∀ b∈ch,(b∈X.ex\/X.s₀.heap.objs.size≤b)/\b≠X.env.locals/\(∀ x c,X.env.cells.lookup x=some c->c≠b)/\∀ p∈X.pn ++ pins,p.1≠b) :
  Inv X pins σ H' { s with heap:=h',gens:=g',drawn:=d',toks:=t' }:=by
 obtain ⟨m,⟨o,es,ep,ho,r⟩,_⟩:=id I.loc
 obtain ⟨sl,hL⟩:=u.any ho I.free fun z=>(hch _ z).2.1 rfl
 exact I.step (ch:=ch) hch (fun b o hL hb hc e n=>u.keep b o e n (fun z=>(List.mem_cons.mp (I.stkSub b z)).elim hL hb) hc) (fun b o _ _ hc e n=>u.any e n hc) (fun b o hc e n=>u.free b o e n hc) (fun b o hc e=>u.there b o e hc) u.tups u.frzs u.tbls (fun m' hm=>by
  obtain ⟨o',es',ep',ho',r'⟩:=hm
  rw [ho] at ho'; cases ho'
  exact ⟨_,es',ep',hL,r'⟩) hok hg
theorem Inv.turned {t':Nat}{it:Addr}(I:Inv X pins σ H s)(k:∀ b o,b≠it->s.heap.get? b=some o->h'.get? b=some o)(hn:H it=none)(hL:it≠X.env.locals)
  (h1:it∈X.ex\/X.s₀.heap.objs.size≤it) (h2:∀ x c,X.env.cells.lookup x=some c->c≠it) (h3:∀ p∈X.pn ++ pins,p.1≠it):Inv X pins σ H { s with heap:=h',toks:=t' }:=by
 have nit:∀ b u,H b=some u->b≠it:=fun b u e z=>by rw [z,hn] at e; cases e
 refine I.step (g':=s.gens) (d':=s.drawn) (ch:=[it]) (fun b hb=>?_) (fun b o _ _ hc e _=>k b o (fun z=>hc (by simp [z])) e) (fun b o _ _ hc e _=>⟨o.slots,k b o (fun z=>hc (by simp [z])) e⟩) (fun _ _ _ _ n=>n)
  (fun b o hc e=>⟨o,k b o (fun z=>hc (by simp [z])) e⟩) (fun _ _ e=>e) (fun _ _ _ e=>e) (fun b ps e=>⟨#[],by rw [e]; simp⟩) (fun m hm=>?_) (fun b u e=>?_) I.bare
 ·have e:b=it:=by simpa using hb
  subst e
  exact ⟨h1,hL,h2,h3⟩
 ·obtain ⟨o,es,ep,ho,r⟩:=hm
  exact ⟨o,es,ep,k _ o (Ne.symm hL) ho,r⟩
 ·refine (I.hok b u e).stay (fun c v hc q=>k c v ?_ q) (fun _ q=>q) fun _ _ q=>q
  rcases hc with z | z
  ·rw [z]; exact nit b u e
  ·exact nit c _ z
theorem Inv.tok (I:Inv X pins σ H s)(t:Nat):Inv X pins σ H { s with toks:=t }:=I.un (h':=s.heap) (t':=t) Un.refl I.hok
theorem Inv.kept {t':Nat}(I:Inv X pins σ H s)(k:∀ b u,s.heap.get? b=some u->h'.get? b=some u):Inv X pins σ H { s with heap:=h',toks:=t' }:=I.un (Un.kept k) (I.hok.kept k)
theorem Inv.laid {a:Addr}{o:HO}{t':Nat}(I:Inv X pins σ H s)(k:∀ b u,s.heap.get? b=some u->h'.get? b=some u)(hp:s.heap.objs.size≤a)(new:qaV X.prog X.w (upd H a o) h' a o) :
  Inv X pins σ (upd H a o) { s with heap:=h',toks:=t' }:=I.un (Un.laid k hp (I.hok.fresh hp)) (I.hok.laid k hp new)
theorem Inv.write {x e:Addr}{o:HO}{t':Nat}(I:Inv X pins σ H s)(mu:Mut (H x))(he:e=x\/H e=some (.own x))(k:∀ b u,b≠e->s.heap.get? b=some u->h'.get? b=some u)(heo:∃ u,h'.get? e=some u)
  (new:qaV X.prog X.w (upd H x o) h' x o):Inv X pins σ (upd H x o) { s with heap:=h',toks:=t' }:=I.un (Un.write mu he k heo) (I.hok.write mu he k heo new)
theorem Inv.pins_of {pins':List (Addr × Obj)}(I:Inv X pins σ H s)(h:∀ p∈pins',s.heap.get? p.1=some p.2/\H p.1=none/\p.1≠X.env.locals/\p.1 ∉ X.fs/\∀ v,p.2.data ≠ .cell v):Inv X pins' σ H s :=
 ⟨I.ok,I.os,I.bare,I.base,I.loc,I.cell,I.free,I.freeC,fun p hp=>(List.mem_append.mp hp).elim (fun z=>I.pin p (List.mem_append_left _ z)) (h p),I.hok,I.len⟩
theorem qfJ {N:List Str}(hN:N.Nodup){i j:Nat}{x:Str}(a:N[i]?=some x)(b:N[j]?=some x):i=j:=by
 obtain ⟨h1,e1⟩:=List.getElem?_eq_some_iff.mp a
 obtain ⟨h2,e2⟩:=List.getElem?_eq_some_iff.mp b
 exact (List.getElem_inj hN).mp (e1.trans e2.symm)
theorem qgI {M:Model}{A:Around}{E:Value->Shared->Prop}{i:Nat}{x:Str}{v:V}{u:Value}{Q:Unit->Shared->Prop}(I:Inv X pins σ H s)(hN:X.N.Nodup)(hi:X.N[i]?=some x)(hx:Loc X.env.scope x)(r:RelV v u)
  (h:∀ s',Inv X pins (σ.set i (some v)) H s'->(∃ a,Heap.SameBut a s.heap s'.heap/\(a=X.env.locals\/X.env.cells.lookup x=some a))->Q () s') (hf:X.fn x=true\/X.env.scope.names.lookup x=some .local:=by first | exact .inl rfl | exact .inr rfl | assumption):wpAny M A (storeName X.env x u) Q E s:=by
 obtain ⟨m,hn,hl⟩:=id I.loc
 have hcls:(X.env.scope.kind == .class || (X.env.scope.kind == .module && X.env.locals != X.env.globals))=false:=by rw [I.ok.kind]; rfl
 have hiσ:i < σ.length:=by rw [I.len]; exact (List.getElem?_eq_some_iff.mp hi).1
 have cne:=I.cne
 have tracked:∀ {a:Addr} {h':Heap},(∃ o,s.heap.get? a=some o/\H a=none)->Heap.SameBut a s.heap h'->HOk X.prog X.w H h':=fun {a h'} ha hs b ob e=>by
  obtain ⟨_,_,hfree⟩:=ha
  refine (I.hok b ob e).stay (fun c w' hc q=>(hs.2 c ?_).trans q) (fun _ q=>q) fun _ _ q=>q
  rintro rfl
  rcases hc with rfl | hc
  ·rw [hfree] at e; cases e
  ·rw [hfree] at hc; cases hc
 rcases hx with hk | hk
 ·refine wpAny_storeName_local hk hn (fun h' hn' hs=>?_) hcls
  obtain ⟨oL,_,_,hoL,_⟩:=id hn
  refine h _ ⟨I.ok,I.os,I.bare,⟨fun b o e n hb hx=>?_,fun b o e n hb hx=>?_,I.base.free,fun b o e hx=>?_,I.base.tups,I.base.frzs,I.base.tbls⟩,⟨_,hn',fun j y v' e1 e2 e3=>?_⟩,fun y c e=>?_,I.free,I.freeC,fun p hp=>?_,tracked ⟨oL,hoL,I.free⟩ hs,by simpa using I.len⟩ ⟨_,hs,.inl rfl⟩
  ·exact (hs.2 b (Nat.ne_of_lt (Nat.lt_of_lt_of_le (Heap.lt_size e) I.ok.above))).trans (I.base.keep b o e n hb hx)
  ·obtain ⟨sl,e1⟩:=I.base.slot b o e n hb hx
   exact ⟨sl,(hs.2 b (Nat.ne_of_lt (Nat.lt_of_lt_of_le (Heap.lt_size e) I.ok.above))).trans e1⟩
  ·obtain ⟨o',e1⟩:=I.base.there b o e hx
   exact ⟨o',(hs.2 b (Nat.ne_of_lt (Nat.lt_of_lt_of_le (Heap.lt_size e) I.ok.above))).trans e1⟩
  ·by_cases hj:j=i
   ·subst hj
    rw [hi] at e1; cases e1
    rw [List.getElem?_set_self hiσ] at e2
    cases e2
    exact ⟨u,r,.inl ⟨hk,by simp⟩⟩
   ·rw [List.getElem?_set_ne (Ne.symm hj)] at e2
    obtain ⟨u',r',q⟩:=hl j y v' e1 e2 e3
    refine ⟨u',r',?_⟩
    rcases q with ⟨k,e⟩ | ⟨k,c,e,z⟩
    ·refine .inl ⟨k,?_⟩
     have:y≠x:=fun e=>hj (qfJ hN e1 (e ▸ hi))
     simp [this,e]
    ·exact .inr ⟨k,c,e,z.sameBut hs (cne y c e)⟩
  ·obtain ⟨w',z⟩:=I.cell y c e
   exact ⟨w',z.sameBut hs (cne y c e)⟩
  ·obtain ⟨e,n,ne,nf,d⟩:=I.pin p hp
   exact ⟨(hs.2 p.1 ne).trans e,n,ne,nf,d⟩
 ·have hfn:X.fn x=true:=by
   rcases hf with z | z
   ·exact z
   ·rw [z] at hk; cases hk
  obtain ⟨c,hc⟩:=I.ok.has x (.inl hk)
  obtain ⟨w',z⟩:=I.cell x c hc
  refine wpAny_storeName_cell I.ok.kind hk hc z (fun h' hc' hs=>?_)
  obtain ⟨oc,hoc,hocd⟩:=id z
  refine h { s with heap:=h' } ⟨I.ok,I.os,I.bare,⟨fun b o e n hb hx=>?_,fun b o e n hb hx=>?_,I.base.free,fun b o e hx=>?_,I.base.tups,I.base.frzs,I.base.tbls⟩,⟨m,hn.sameBut hs (Ne.symm (cne x c hc)),fun j y v' e1 e2 e3=>?_⟩,fun y c' e=>?_,I.free,I.freeC,fun p hp=>?_,tracked ⟨oc,hoc,I.freeC x c hc⟩ hs,by simpa using I.len⟩ ⟨c,hs,.inr hc⟩
  ·exact (hs.2 b (Nat.ne_of_lt (Nat.lt_of_lt_of_le (Heap.lt_size e) (I.ok.cab x c hfn hc)))).trans (I.base.keep b o e n hb hx)
  ·obtain ⟨sl,e1⟩:=I.base.slot b o e n hb hx
   exact ⟨sl,(hs.2 b (Nat.ne_of_lt (Nat.lt_of_lt_of_le (Heap.lt_size e) (I.ok.cab x c hfn hc)))).trans e1⟩
  ·obtain ⟨o',e1⟩:=I.base.there b o e hx
   exact ⟨o',(hs.2 b (Nat.ne_of_lt (Nat.lt_of_lt_of_le (Heap.lt_size e) (I.ok.cab x c hfn hc)))).trans e1⟩
  ·by_cases hj:j=i
   ·subst hj
    rw [hi] at e1; cases e1
    rw [List.getElem?_set_self hiσ] at e2
    cases e2
    exact ⟨u,r,.inr ⟨.inl hk,c,hc,hc'⟩⟩
   ·rw [List.getElem?_set_ne (Ne.symm hj)] at e2
    obtain ⟨u',r',q⟩:=hl j y v' e1 e2 e3
    refine ⟨u',r',?_⟩
    rcases q with q | ⟨k,c',e,z'⟩
    ·exact .inl q
    ·refine .inr ⟨k,c',e,z'.sameBut hs ?_⟩
     rintro rfl
     exact hj (qfJ hN e1 (I.ok.inj _ _ _ e hc ▸ hi))
  ·by_cases hcc:c'=c
   ·subst hcc; exact ⟨_,hc'⟩
   ·obtain ⟨w2,z2⟩:=I.cell y c' e
    exact ⟨w2,z2.sameBut hs hcc⟩
  ·obtain ⟨e,n,ne,nf,d⟩:=I.pin p hp
   refine ⟨(hs.2 p.1 ?_).trans e,n,ne,nf,d⟩
   intro q
   rw [q,hoc] at e
   have q':oc=p.2:=Option.some.inj e
   exact d w' (by rw [<- q']; exact hocd)
theorem qcP {M:Model}{A:Around}{E:Value->Shared->Prop}{i:Nat}{x:Str}{v:V}{u:Value}{Q:Unit->Shared->Prop}(I:Inv X pins σ H s)(hN:X.N.Nodup)(hi:X.N[i]?=some x)(hx:Loc X.env.scope x)(r:RelV v u)
  (h:∀ s',Inv X pins (σ.set i (some v)) H s'->Q () s') (hf:X.fn x=true\/X.env.scope.names.lookup x=some .local:=by first | exact .inl rfl | exact .inr rfl | assumption):wpAny M A (storeName X.env x u) Q E s :=
 qgI I hN hi hx r (fun s' I' _=>h s' I') hf
theorem Inv.call' {s':Shared}{ch:List Addr}(I:Inv X pins σ H s)(ho:s'.os=s.os)(u:Un (frs X.stack) ch H H' s.heap s'.heap)(hok:HOk X.prog X.w H' s'.heap)(hg:AllBare s'.gens)
  (hch:∀ b∈ch,(b∈X.ex\/X.s₀.heap.objs.size≤b)/\b≠X.env.locals/\(∀ x c,X.env.cells.lookup x=some c->c≠b)/\∀ p∈X.pn ++ pins,p.1≠b):Inv X pins σ H' s':=by
 obtain ⟨h',g',d',t',o'⟩:=s'
 have e:o'=s.os:=ho
 subst e
 exact I.call (g':=g') (t':=t') (d':=d') u hok hg hch
end
abbrev XK:=Value->Option Addr->Hp->Prop
abbrev St:=List (Option V)
abbrev VK:=V->Hp->Prop
abbrev TE:=St->Hp->VK->Prop
abbrev TT:=St->Hp->(Bool->Hp->Prop)->Prop
abbrev TA:=St->Hp->(List V->Hp->Prop)->Prop
structure Ends where
 nx:St->Hp->Prop
 rt:VK
 bk:St->Hp->Prop:=fun _ _=>False
 ct:St->Hp->Prop:=fun _ _=>False
abbrev TS:=Ends->St->Hp->Prop
def EP (X:Cx)(pins:List (Addr × Obj))(σ:St)(Q:VK)(u:Value)(s':Shared):Prop:=∃ v H',Inv X pins σ H' s'/\RelV v u/\Q v H'
def TP (X:Cx)(pins:List (Addr × Obj))(σ:St)(Q:Bool->Hp->Prop)(b:Bool)(s':Shared):Prop:=∃ H',Inv X pins σ H' s'/\Q b H'
def AP (X:Cx)(pins:List (Addr × Obj))(σ:St)(Q:List V->Hp->Prop)(us:List Value)(s':Shared):Prop:=∃ vs H',Inv X pins σ H' s'/\Vals vs us/\Q vs H'
def SP (X:Cx)(pins:List (Addr × Obj))(D:Ends)(f:Flow)(s':Shared):Prop :=
 match f with
 | .next=>∃ σ' H',Inv X pins σ' H' s'/\D.nx σ' H'
 | .brk=>∃ σ' H',Inv X pins σ' H' s'/\D.bk σ' H'
 | .cont=>∃ σ' H',Inv X pins σ' H' s'/\D.ct σ' H'
 | .ret u=>∃ v σ' H',Inv X pins σ' H' s'/\RelV v u/\D.rt v H'
def PE (X:Cx)(e:Expr)(t:TE):Prop :=
 ∀ (pins:List (Addr × Obj)) (s:Shared) (σ:St) (H:Hp) (Q:VK),Inv X pins σ H s->t σ H Q->wpAny (model X.prog X.w) X.A (eval e X.env) (EP X pins σ Q) X.xe s
def PT (X:Cx)(e:Expr)(t:TT):Prop :=
 ∀ (pins:List (Addr × Obj)) (s:Shared) (σ:St) (H:Hp) (Q:Bool->Hp->Prop),Inv X pins σ H s->t σ H Q->wpAny (model X.prog X.w) X.A (isTrue e X.env (eval e X.env)) (TP X pins σ Q) X.xe s
def PW (X:Cx)(e:Expr)(t:TT):Prop :=
 ∀ (whole:Sem Value) (pins:List (Addr × Obj)) (s:Shared) (σ:St) (H:Hp) (Q:Bool->Hp->Prop),Inv X pins σ H s->t σ H Q->wpAny (model X.prog X.w) X.A (isTrue e X.env whole) (TP X pins σ Q) X.xe s
theorem PW.pt {X:Cx}{e:Expr}{t:TT}(h:PW X e t):PT X e t:=h _
def PA (X:Cx)(es:List Expr)(t:TA):Prop :=
 ∀ (pos:Pos) (pins:List (Addr × Obj)) (s:Shared) (σ:St) (H:Hp) (Q:List V->Hp->Prop),Inv X pins σ H s->t σ H Q->wpAny (model X.prog X.w) X.A (spliced (backTo pos (starEach es X.env))) (AP X pins σ Q) X.xe s
def PS (X:Cx)(st:Stmt)(t:TS):Prop :=
 ∀ (pins:List (Addr × Obj)) (s:Shared) (σ:St) (H:Hp) (D:Ends),Inv X pins σ H s->t D σ H->wpAny (model X.prog X.w) X.A (exec st X.env) (SP X pins D) X.xe s
def PSs (X:Cx)(st:List Stmt)(t:TS):Prop :=
 ∀ (pins:List (Addr × Obj)) (s:Shared) (σ:St) (H:Hp) (D:Ends),Inv X pins σ H s->t D σ H->wpAny (model X.prog X.w) X.A (execs st X.env) (SP X pins D) X.xe s
theorem thn {α:Type}{t:Sem α}{Q Q':α->Shared->Prop}{M:Model}{A:Around}{E:Value->Shared->Prop}{s:Shared}(h:wpAny M A t Q E s)(hQ:∀ a s,Q a s->Q' a s):wpAny M A t Q' E s:=wpAny_mono h hQ fun _ _ x=>x
section
variable {X:Cx}
def tVar (i:Nat):TE:=fun σ H Q=>∃ v,σ[i]?=some (some v)/\Q v H
def tC (v:V):TE:=fun _ H Q=>Q v H
theorem qlc {i:Nat}{x:Str}{pos:Pos}(hN:X.N[i]?=some x)(hv:Vis X.env.scope x)(hd:(x == ("__debug__" : Str))=false:=by decide)(hcd:(x == ("__classdict__" : Str))=false:=by decide):PE X (.Name x pos) (tVar i):=by
 intro pins s σ H Q I h
 obtain ⟨v,e,h⟩:=h
 obtain ⟨m,hn,hl⟩:=I.loc
 obtain ⟨u,r,l⟩:=hl i x v hN e hv
 have fin:EP X pins σ Q u s:=⟨v,H,I,r,h⟩
 rcases l with ⟨hk,hm⟩ | ⟨hk,c,hc,hcell⟩
 ·exact wpAny_Name (wpAny_loadName_local I.ok.kind hk hn hm fin) hd
 ·rcases hk with hk | hk
  ·exact wpAny_Name (wpAny_loadName_cell I.ok.kind hk hc hcell fin) hd
  ·exact wpAny_Name (wpAny_loadName_free I.ok.kind hk hc hcell fin hcd) hd
theorem pI {i j pos}:PE X (.Constant (.int i) j pos) (tC (.int i)):=fun _ _ _ H _ I h=>wpAny_Constant_int ⟨.int i,H,I.tok _,⟨_,rfl⟩,h⟩
theorem qbi {b j pos}:PE X (.Constant (.bool b) j pos) (tC (.bl b)):=fun _ _ _ H _ I h=>Constant_bool ⟨.bl b,H,I,rfl,h⟩
theorem qjf {j pos}:PE X (.Constant .none j pos) (tC .non):=fun _ _ _ H _ I h=>Constant_none ⟨.non,H,I,rfl,h⟩
theorem qbg {x j pos}:PE X (.Constant (.str x) j pos) (tC (.str x)):=fun _ _ _ H _ I h=>Calls.Constant_str ⟨.str x,H,I.tok _,⟨_,rfl⟩,h⟩
def Gl (X:Cx)(x:Str):Prop:=X.env.kindOf x=some .globalImplicit
theorem qhn {E:Value->Shared->Prop}{pins:List (Addr × Obj)}{s:Shared}{σ:St}{H:Hp}{x:Str}{u:Value}{pos:Pos}{Q:Value->Shared->Prop}(I:Inv X pins σ H s)(hg:Gl X x)(hm:X.mg x=some u)(h:Q u s)
  (hd:(x == ("__debug__" : Str))=false:=by decide):wpAny (model X.prog X.w) X.A (eval (.Name x pos) X.env) Q E s :=
 Calls.Name_function_global I.ok.kind hg (Calls.loadGlobal_global (by rw [I.ok.glob]; exact I.mod.glob.keeps I.bk) hm h) hd
theorem qcJ {E:Value->Shared->Prop}{pins:List (Addr × Obj)}{s:Shared}{σ:St}{H:Hp}{x:Str}{u:Value}{pos:Pos}{Q:Value->Shared->Prop}(I:Inv X pins σ H s)(hg:Gl X x)(hm:X.mg x=none)(hv:bootBuiltins x=some u)(h:Q u s)
  (hn:x ≠ "__name__" := by decide) (hd:(x == ("__debug__" : Str))=false:=by decide):wpAny (model X.prog X.w) X.A (eval (.Name x pos) X.env) Q E s:=by
 obtain ⟨mb,h1,h2⟩:=I.mod.blt
 exact Calls.Name_function_global I.ok.kind hg (Calls.loadGlobal_builtin (by rw [I.ok.glob]; exact I.mod.glob.keeps I.bk) hm (by rw [I.ok.blt]; exact h1.keeps I.bk) ((h2 x hn).trans hv) h) hd
theorem qjX {x:Str}{v:V}{u:Value}{pos:Pos}(hg:Gl X x)(hm:X.mg x=some u)(r:RelV v u)(hd:(x == ("__debug__" : Str))=false:=by decide):PE X (.Name x pos) (tC v) :=
 fun _ _ _ H _ I h=>qhn I hg hm ⟨v,H,I,r,h⟩ hd
theorem qaU {x:Str}{v:V}{u:Value}{pos:Pos}(hg:Gl X x)(hm:X.mg x=none)(hv:bootBuiltins x=some u)(r:RelV v u)(hn:x ≠ "__name__" := by decide)(hd:(x == ("__debug__" : Str))=false:=by decide):PE X (.Name x pos) (tC v) :=
 fun _ _ _ H _ I h=>qcJ I hg hm hv ⟨v,H,I,r,h⟩ hn hd
variable {a b:Expr}{ta tb:TE}{pos:Pos}
def tB (t:TE):TT:=fun σ H Q=>t σ H fun x H1=>∃ c,x = .bl c/\Q c H1
theorem qaM {e:Expr}{t:TE}(h:PE X e t)(he:∀ whole,isTrue e X.env whole=(do let v <- whole; standAt e.pos; holding [v] (truthy v)):=by intro _; rfl):PT X e (tB t):=by
 intro pins s σ H Q I hw
 refine isTrue_plain (thn (h pins s σ H _ I hw) fun v s1 ⟨x,H1,I1,r1,q1⟩=>?_) (he _)
 obtain ⟨d,rfl,q⟩:=q1
 cases r1
 exact wpAny_truthy_bool ⟨H1,I1,q⟩
variable {tA tB':TT}{rest:List Expr}
def tAnd (t u:TT):TT:=fun σ H Q=>t σ H fun c H1=>if c=true then u σ H1 Q else Q false H1
def tOr (t u:TT):TT:=fun σ H Q=>t σ H fun c H1=>if c=true then Q true H1 else u σ H1 Q
def tNot (t:TT):TT:=fun σ H Q=>t σ H fun c H1=>Q (!c) H1
theorem qeZ (ha:PT X a tA):PW X (.BoolOp .And [a] pos) tA:=by
 intro wh pins s σ H Q I h
 refine isTrue_and (thn (ha pins s σ H Q I h) fun c s1 e=>?_)
 cases c with
 | true=>exact isTrue_and_nil e
 | false=>exact e
theorem qbm (ha:PT X a tA):PW X (.BoolOp .Or [a] pos) tA:=by
 intro wh pins s σ H Q I h
 refine isTrue_or (thn (ha pins s σ H Q I h) fun c s1 e=>?_)
 cases c with
 | false=>exact isTrue_or_nil e
 | true=>exact e
theorem qfC (ha:PT X a tA)(hb:PW X (.BoolOp .And (b :: rest) pos) tB'):PW X (.BoolOp .And (a :: b :: rest) pos) (tAnd tA tB'):=by
 intro wh pins s σ H Q I h
 refine isTrue_and (thn (ha pins s σ H _ I h) fun c s1 ⟨H1,I1,q1⟩=>?_)
 cases c with
 | true=>exact hb wh pins s1 σ H1 Q I1 q1
 | false=>exact ⟨H1,I1,q1⟩
theorem qbq (ha:PT X a tA)(hb:PW X (.BoolOp .Or (b :: rest) pos) tB'):PW X (.BoolOp .Or (a :: b :: rest) pos) (tOr tA tB'):=by
 intro wh pins s σ H Q I h
 refine isTrue_or (thn (ha pins s σ H _ I h) fun c s1 ⟨H1,I1,q1⟩=>?_)
 cases c with
 | true=>exact ⟨H1,I1,q1⟩
 | false=>exact hb wh pins s1 σ H1 Q I1 q1
theorem qa1 (ha:PT X a tA):PT X (.UnaryOp .Not a pos) (tNot tA):=by
 intro pins s σ H Q I h
 exact isTrue_not (ha pins s σ H (fun c H1=>Q (!c) H1) I h)
def tAndV (ta tb:TE):TE:=fun σ H Q=>ta σ H fun x H1=>∃ c,x = .bl c/\if c=true then tb σ H1 Q else Q (.bl false) H1
def tNotV (ta:TE):TE:=fun σ H Q=>ta σ H fun x H1=>∃ c,x = .bl c/\Q (.bl (!c)) H1
theorem qcH {op}{t:TE}(h:PE X a t):PE X (.BoolOp op [a] pos) t:=fun pins s σ H Q I hw=>BoolOp_one (h pins s σ H Q I hw)
theorem qce (ha:PE X a ta)(hb:PE X (.BoolOp .And (b :: rest) pos) tb):PE X (.BoolOp .And (a :: b :: rest) pos) (tAndV ta tb):=by
 intro pins s σ H Q I h
 refine BoolOp_and (thn (ha pins s σ H _ I h) fun v s1 ⟨x,H1,I1,r1,q1⟩=>?_)
 obtain ⟨c,rfl,q1⟩:=q1
 cases r1
 refine wpAny_truthy_bool ?_
 cases c with
 | true=>exact hb pins s1 σ H1 Q I1 q1
 | false=>exact ⟨.bl false,H1,I1,rfl,q1⟩
theorem qje (ha:PE X a ta):PE X (.UnaryOp .Not a pos) (tNotV ta):=by
 intro pins s σ H Q I h
 refine UnaryOp_ (thn (ha pins s σ H _ I h) fun v s1 ⟨x,H1,I1,r1,q1⟩=>?_)
 obtain ⟨c,rfl,q1⟩:=q1
 cases r1
 exact not_of (wpAny_truthy_bool ⟨.bl (!c),H1,I1,rfl,q1⟩)
end
def SqL (K:PySem.W.Frag)(H:Hp)(a:Addr)(xs:List V):Prop :=
 Rd H a (.lst xs) \/
  ∃ (o:Obj) (its:Array Value) (n:Nat),K.lookup a=some o/\o.cls = .type "list" /\ o.dict=none/\o.data = .seq its n/\its.size≤sizeLine/\Vals xs its.toList
def SqT (K:PySem.W.Frag)(H:Hp)(a:Addr)(xs:List V):Prop :=
 Rd H a (.tup xs) \/
  ∃ (o:Obj) (its:Array Value) (n:Nat),K.lookup a=some o/\o.cls = .type "tuple" /\ o.data = .seq its n/\its.size≤sizeLine/\Vals xs its.toList
def absV:Value->Option V
 | .none=>some .non
 | .bool b=>some (.bl b)
 | .int i _=>some (.int i)
 | .str x _=>some (.str x)
 | .bytes b _=>some (.byt b)
 | .float b _=>some (.flt b)
 | .ref a=>some (.ref a)
 | .type n=>some (.ty n)
 | _=>none
theorem RelV.abs {x:V}{u:Value}(r:RelV x u):absV u=some x:=by
 cases x with
 | non=>cases r; rfl
 | bl _=>cases r; rfl
 | int _=>obtain ⟨t,rfl⟩:=r; rfl
 | str _=>obtain ⟨t,rfl⟩:=r; rfl
 | byt _=>obtain ⟨t,rfl⟩:=r; rfl
 | flt _=>obtain ⟨t,rfl⟩:=r; rfl
 | ref _=>cases r; rfl
 | ty _=>cases r; rfl
theorem RelV.inj {x y:V}{u:Value}(r:RelV x u)(q:RelV y u):x=y:=Option.some.inj (r.abs.symm.trans q.abs)
theorem Vals.inj:∀ {xs ys:List V} {us:List Value},Vals xs us->Vals ys us->xs=ys
 | _,_,_,.nil,.nil=>rfl
 | _,_,_,.cons r t,.cons r' t'=>by rw [r.inj r',Vals.inj t t']
section
variable {X:Cx}{pins:List (Addr × Obj)}{σ:St}{H:Hp}{s:Shared}{a:Addr}{xs ys:List V}
theorem SqL.of {K:PySem.W.Frag}(h:H a=some (.lst xs)):SqL K H a xs := .inl (.inl h)
theorem SqT.of {K:PySem.W.Frag}(h:H a=some (.tup xs)):SqT K H a xs := .inl (.inl h)
theorem Inv.list (I:Inv X pins σ H s)(h:SqL X.K H a xs):∃ its:List Value,Vals xs its/\PlainL s.heap a its.toArray/\xs.length≤sizeLine:=by
 rcases h with h | ⟨o,its,n,hk,hc,hd,hs,hz,r⟩
 ·obtain ⟨z,its,n,r,e⟩:=h.ok I.hok
  exact ⟨its,r,⟨_,n,e,rfl,rfl,rfl⟩,z⟩
 ·refine ⟨its.toList,r,⟨o,n,I.kIn a o hk,hc,hd,by simpa using hs⟩,?_⟩
  have e:=r.length
  simp only [Array.length_toList] at e
  omega
theorem Inv.tuple (I:Inv X pins σ H s)(h:SqT X.K H a xs):∃ its:List Value,Vals xs its/\IsTup s.heap a its.toArray/\xs.length≤sizeLine:=by
 rcases h with h | ⟨o,its,n,hk,hc,hs,hz,r⟩
 ·obtain ⟨z,its,r,p⟩:=h.ok I.hok
  exact ⟨its,r,p.tup,z⟩
 ·refine ⟨its.toList,r,⟨o,I.kIn a o hk,hc,n,by simpa using hs⟩,?_⟩
  have e:=r.length
  simp only [Array.length_toList] at e
  omega
theorem Inv.list_inj (I:Inv X pins σ H s)(h:SqL X.K H a xs)(h':SqL X.K H a ys):xs=ys:=by
 obtain ⟨its,r,⟨o,n,e,_,_,d⟩,_⟩:=I.list h
 obtain ⟨its',r',⟨o',n',e',_,_,d'⟩,_⟩:=I.list h'
 rw [e] at e'; cases e'
 rw [d] at d'
 injection d' with d1 _
 have:its=its':=by simpa using congrArg Array.toList d1
 subst this
 exact r.inj r'
theorem Inv.tuple_inj (I:Inv X pins σ H s)(h:SqT X.K H a xs)(h':SqT X.K H a ys):xs=ys:=by
 obtain ⟨its,r,⟨o,e,_,n,d⟩,_⟩:=I.tuple h
 obtain ⟨its',r',⟨o',e',_,n',d'⟩,_⟩:=I.tuple h'
 rw [e] at e'; cases e'
 rw [d] at d'
 injection d' with d1 _
 have:its=its':=by simpa using congrArg Array.toList d1
 subst this
 exact r.inj r'
end
abbrev Cx.wish (X:Cx)(E:Value->Shared->Prop):Cx:={ X with xe:=E }
abbrev Cx.nox (X:Cx):Cx:=X.wish fun _ _=>False
theorem Cx.Ok.wish {X:Cx}(ok:X.Ok)(E:Value->Shared->Prop):(X.wish E).Ok :=
 ⟨ok.mod,ok.kind,ok.glob,ok.blt,ok.above,ok.inj,ok.has,ok.cab,ok.hd,ok.frames,ok.stk,ok.exf,ok.bs,ok.bsz,ok.noex,ok.exfs,ok.funs,ok.frf⟩
theorem Cx.Ok.unwish {X:Cx}{E:Value->Shared->Prop}(ok:(X.wish E).Ok):X.Ok :=
 ⟨ok.mod,ok.kind,ok.glob,ok.blt,ok.above,ok.inj,ok.has,ok.cab,ok.hd,ok.frames,ok.stk,ok.exf,ok.bs,ok.bsz,ok.noex,ok.exfs,ok.funs,ok.frf⟩
section
variable {X:Cx}{pins:List (Addr × Obj)}{σ:St}{H:Hp}{s:Shared}{E:Value->Shared->Prop}
theorem Inv.wish (I:Inv X pins σ H s)(E:Value->Shared->Prop):Inv (X.wish E) pins σ H s:=⟨I.ok.wish E,I.os,I.bare,I.base,I.loc,I.cell,I.free,I.freeC,I.pin,I.hok,I.len⟩
theorem Inv.unwish (I:Inv (X.wish E) pins σ H s):Inv X pins σ H s:=⟨I.ok.unwish,I.os,I.bare,I.base,I.loc,I.cell,I.free,I.freeC,I.pin,I.hok,I.len⟩
theorem SP.unwish {D:Ends}{f:Flow}{s':Shared}(h:SP (X.wish E) pins D f s'):SP X pins D f s':=by
 cases f with
 | next=>obtain ⟨σ',H',I,q⟩:=h; exact ⟨σ',H',I.unwish,q⟩
 | brk=>obtain ⟨σ',H',I,q⟩:=h; exact ⟨σ',H',I.unwish,q⟩
 | cont=>obtain ⟨σ',H',I,q⟩:=h; exact ⟨σ',H',I.unwish,q⟩
 | ret u=>obtain ⟨v,σ',H',I,r,q⟩:=h; exact ⟨v,σ',H',I.unwish,r,q⟩
theorem PSs.nox {st:List Stmt}{t:TS}(h:PSs X.nox st t):PSs X st t:=fun pins s σ H D I hw =>
 wpAny_mono (h pins s σ H D (I.wish _) hw) (fun _ _ q=>q.unwish) fun _ _ z=>False.elim z
end
section
variable {X:Cx}{st:Stmt}{rest:List Stmt}{t u:TS}{e:Expr}{te:TE}{pos:Pos}
def tNext:TS:=fun D σ H=>D.nx σ H
def tSeq (t u:TS):TS:=fun D σ H=>t { D with nx:=u D } σ H
theorem qau:PSs X [] tNext:=fun _ _ σ H _ I h=>wpAny_execs_nil ⟨σ,H,I,h⟩
theorem pK (h1:PS X st t)(h2:PSs X rest u):PSs X (st :: rest) (tSeq t u):=by
 intro pins s σ H D I h
 refine wpAny_execs_cons (thn (h1 pins s σ H { D with nx:=u D } I h) fun f s1 q=>?_)
 cases f with
 | next =>
  obtain ⟨σ',H',I',q⟩:=q
  exact h2 pins s1 σ' H' D I' q
 | ret v=>exact q
 | brk=>exact q
 | cont=>exact q
theorem pO (h1:PS X st t):PSs X [st] t:=by
 intro pins s σ H D I h
 refine wpAny_execs_cons (thn (h1 pins s σ H D I h) fun f s1 q=>?_)
 cases f with
 | next=>exact wpAny_execs_nil q
 | ret v=>exact q
 | brk=>exact q
 | cont=>exact q
theorem Inv.quiet {pins:List (Addr × Obj)}{σ:St}{H:Hp}{s:Shared}(I:Inv X pins σ H s):interactive X.env=false:=by simp [interactive,I.ok.kind]
def tDrop (te:TE):TS:=fun D σ H=>te σ H fun _ H1=>D.nx σ H1
theorem qjP (he:PE X e te)(hs:swapsWith e none pos.line X.env=pure false:=by rfl):PS X (.Expr e pos) (tDrop te):=by
 intro pins s σ H D I h
 exact wpAny_Expr_any (thn (he pins s σ H _ I h) fun v s1 ⟨x,H1,I1,r1,q1⟩=>⟨σ,H1,I1,q1⟩) I.quiet hs
def tRet (te:TE):TS:=fun D σ H=>te σ H D.rt
theorem qag (he:PE X e te):PS X (.Return (some e) pos) (tRet te):=by
 intro pins s σ H D I h
 exact wpAny_Return_some (thn (he pins s σ H _ I h) fun v s1 ⟨x,H1,I1,r1,q1⟩=>⟨x,σ,H1,I1,r1,q1⟩)
def tIfS (c:TT)(t u:TS):TS:=fun D σ H=>c σ H fun b H1=>if b=true then t D σ H1 else u D σ H1
theorem qa8 {c:Expr}{a b:List Stmt}{tc:TT}(hc:PT X c tc)(ha:PSs X a t)(hb:PSs X b u):PS X (.If c a b pos) (tIfS tc t u):=by
 intro pins s σ H D I h
 refine wpAny_If (thn (hc pins s σ H _ I h) fun d s1 ⟨H1,I1,q1⟩=>?_)
 cases d with
 | true=>exact ha pins s1 σ H1 D I1 q1
 | false=>exact hb pins s1 σ H1 D I1 q1
end
abbrev TG:=V->St->Hp->(St->Hp->Prop)->Prop
abbrev TGs:=List V->St->Hp->(St->Hp->Prop)->Prop
def PG (X:Cx)(target:Expr)(t:TG):Prop :=
 ∀ (pins:List (Addr × Obj)) (s:Shared) (σ:St) (H:Hp) (v:V) (u:Value) (Q:St->Hp->Prop),Inv X pins σ H s->RelV v u->t v σ H Q ->
  wpAny (model X.prog X.w) X.A (assign target X.env u) (fun _ s'=>∃ σ' H',Inv X pins σ' H' s'/\Q σ' H') X.xe s
def PGs (X:Cx)(ts:List Expr)(t:TGs):Prop :=
 ∀ (pins:List (Addr × Obj)) (s:Shared) (σ:St) (H:Hp) (vs:List V) (us:List Value) (Q:St->Hp->Prop),Inv X pins σ H s->Vals vs us->t vs σ H Q ->
  wpAny (model X.prog X.w) X.A (assignInOrder ((assignEach ts X.env).map (·.2)) us) (fun _ s'=>∃ σ' H',Inv X pins σ' H' s'/\Q σ' H') X.xe s
abbrev TSet:=V->V->V->Hp->(Hp->Prop)->Prop
def PSet (X:Cx)(t:TSet):Prop :=
 ∀ (pins:List (Addr × Obj)) (s:Shared) (σ:St) (H:Hp) (o i v:V) (ov iv u:Value) (Q:Hp->Prop),Inv X pins σ H s->RelV o ov->RelV i iv->RelV v u->t o i v H Q ->
  wpAny (model X.prog X.w) X.A (setItem ov iv u) (fun _ s'=>∃ H',Inv X pins σ H' s'/\Q H') X.xe s
section
variable {X:Cx}{pos:Pos}
def qez (i:Nat):TG:=fun v σ H Q=>Q (σ.set i (some v)) H
theorem pG {i:Nat}{x:Str}(hN:X.N.Nodup)(hi:X.N[i]?=some x)(hx:Loc X.env.scope x)(hf:X.fn x=true\/X.env.scope.names.lookup x=some .local:=by first | exact .inl rfl | exact .inr rfl | assumption):PG X (.Name x pos) (qez i):=by
 intro pins s σ H v u Q I r h
 exact wpAny_assign_Name (qcP I hN hi hx r (fun s' I'=>⟨_,H,I',h⟩) hf)
def gNil:TGs:=fun vs σ H Q=>vs=[]/\Q σ H
def qkw (t:TG)(u:TGs):TGs:=fun vs σ H Q=>∃ v r,vs=v :: r/\t v σ H fun σ' H'=>u r σ' H' Q
theorem qaX:PGs X [] gNil:=by
 intro pins s σ H vs us Q I r h
 obtain ⟨e,h⟩:=h
 subst e
 cases r
 exact assignInOrder_nil ⟨σ,H,I,h⟩
theorem qai {e:Expr}{es:List Expr}{t:TG}{u:TGs}(h1:PG X e t)(h2:PGs X es u)
  (hs:(assignEach (e :: es) X.env).map (·.2)=assign e X.env :: (assignEach es X.env).map (·.2):=by rfl):PGs X (e :: es) (qkw t u):=by
 intro pins s σ H vs us Q I r h
 obtain ⟨v,vr,e1,h⟩:=h
 subst e1
 cases r with
 | cons r rr =>
  rw [hs]
  refine assignInOrder_cons (thn (h1 pins s σ H _ _ _ I r h) fun _ s1 ⟨σ1,H1,I1,q1⟩=>?_)
  exact h2 pins s1 σ1 H1 _ _ Q I1 rr q1
def gTup (K:PySem.W.Frag)(n:Nat)(t:TGs):TG:=fun v σ H Q=>∃ a xs,v = .ref a/\SqT K H a xs/\xs.length=n/\t xs σ H Q
theorem qbW {es:List Expr}{k:Nat}{t:TGs}{n:Nat}(hc:X.calm=true)(h:PGs X es t)
  (hn:(assignEach es X.env).length=n:=by rfl) (hst:(assignEach es X.env).findIdx? (·.1)=none:=by rfl):PG X (.Tuple es k pos) (gTup X.K n t):=by
 intro pins s σ H v u Q I r hw
 obtain ⟨a,xs,e1,hq,hl,hw⟩:=hw
 subst e1
 cases r
 obtain ⟨its,rv,ht,hz⟩:=I.tuple hq
 refine assign_Tuple_tuple (I.ok.hd hc) ht (by simp [hn,<- hl,rv.length]) hst fun h' hx=>?_
 have I1:Inv X pins σ H { s with heap:=h' }:=I.kept (t':=s.toks) fun b o e=>hx b o (Nat.ne_of_lt (Heap.lt_size e)) e
 exact h pins _ σ H xs _ Q I1 (by simpa using rv) hw
def gSub (to ti:TE)(t:TSet):TG:=fun v σ H Q=>to σ H fun o H1=>ti σ H1 fun i H2=>t o i v H2 fun H3=>Q σ H3
theorem qg3 {o i:Expr}{to ti:TE}{t:TSet}(ho:PE X o to)(hi:PE X i ti)(hs:PSet X t)
  (ha:∀ v,assign (.Subscript o i pos) X.env v=(do
    let ov <- holding [v] (eval o X.env)
    let iv <- holding [v,ov] (eval i X.env)
    standAt pos
    holding [v,ov,iv] (setItem ov iv v)
    release [v,ov,iv] []):=by intro _; rfl):PG X (.Subscript o i pos) (gSub to ti t):=by
 intro pins s σ H v u Q I r h
 rw [ha]
 refine wpAny_bind (wpAny_holding (thn (ho pins s σ H _ I h) fun ov s1 ⟨x,H1,I1,r1,q1⟩=>?_))
 refine wpAny_bind (wpAny_holding (thn (hi pins s1 σ H1 _ I1 q1) fun iv s2 ⟨y,H2,I2,r2,q2⟩=>?_))
 refine wpAny_bind (wpAny_standAt (wpAny_bind (wpAny_holding (thn (hs pins s2 σ H2 x y v ov iv u _ I2 r1 r2 r q2) fun _ s3 ⟨H3,I3,q3⟩=>?_))))
 exact wpAny_release ⟨σ,H3,I3,q3⟩
def tAsg (te:TE)(g:TG):TS:=fun D σ H=>te σ H fun x H1=>g x σ H1 D.nx
theorem qcG {tg e:Expr}{te:TE}{g:TG}(he:PE X e te)(hg:PG X tg g)(hs:swapsWithSole [tg] e pos.line X.env=pure false:=by rfl)(hw:swappedStores [tg] e X.env=pure none:=by rfl)
  (h1:(assignEach [tg] X.env).map (·.2)=[assign tg X.env]:=by rfl):PS X (.Assign [tg] e pos) (tAsg te g):=by
 intro pins s σ H D I h
 refine wpAny_Assign_stores (thn (he pins s σ H _ I h) fun v s1 ⟨x,H1,I1,r1,q1⟩=>?_) hs hw
 rw [h1]
 exact thn (hg pins s1 σ H1 x v _ I1 r1 q1) fun _ s2 q=>q
theorem pZ {i:Nat}{x:Str}{e:Expr}{te:TE}{pos':Pos}(hN:X.N.Nodup)(hi:X.N[i]?=some x)(hx:Loc X.env.scope x)(he:PE X e te)(hs:swapsWith e (some (.Name x pos')) pos.line X.env=pure false:=by rfl)(hf:X.fn x=true\/X.env.scope.names.lookup x=some .local:=by first | exact .inl rfl | exact .inr rfl | assumption) :
  PS X (.Assign [.Name x pos'] e pos) (tAsg te (qez i)):=by
 intro pins s σ H D I h
 refine wpAny_Assign_Name (thn (he pins s σ H _ I h) fun v s1 ⟨y,H1,I1,r1,q1⟩=>?_) hs
 exact qcP I1 hN hi hx r1 (fun s2 I2=>⟨_,H1,I2,q1⟩) hf
def tPar (i j:Nat)(ta:TA):TS:=fun D σ H=>ta σ H fun vs H1=>∃ v w,vs=[v,w]/\D.nx ((σ.set i (some v)).set j (some w)) H1
theorem qgX {i j:Nat}{x y:Str}{a b:Expr}{ta:TA}{px py pt:Pos}{kt k2 pt2}(hc:X.calm=true)(hN:X.N.Nodup)(hi:X.N[i]?=some x)(hj:X.N[j]?=some y)(hij:i≠j)
  (hx:X.env.scope.names.lookup x=some .local) (hy:X.env.scope.names.lookup y=some .local) (ha:PA X [a,b] ta)
  (hw:swappedStores [.Tuple [.Name x px,.Name y py] kt pt] (.Tuple [a,b] k2 pt2) X.env=pure (some [x,y]))
  (hs:swapsWithSole [.Tuple [.Name x px,.Name y py] kt pt] (.Tuple [a,b] k2 pt2) pos.line X.env=pure false:=by rfl) :
  PS X (.Assign [.Tuple [.Name x px,.Name y py] kt pt] (.Tuple [a,b] k2 pt2) pos) (tPar i j ta):=by
 intro pins s σ H D I h
 rw [exec_Assign_arm]
 refine wpAny_bind (wpAny_standAt ?_)
 rw [hs]
 refine wpAny_bind (wpAny_pure ?_)
 rw [if_neg (by decide)]
 refine wpAny_bind (Tuple_ (thn (ha _ pins s σ H _ I h) fun us s1 ⟨vs,H1,I1,r1,q1⟩=>?_))
 obtain ⟨v,w,e1,q1⟩:=q1
 subst e1
 obtain ⟨u1,u2,rfl,rv,rw'⟩:∃ u1 u2,us=[u1,u2]/\RelV v u1/\RelV w u2:=by
  cases r1 with
  | cons p q =>
   cases q with
   | cons p' q' =>
    cases q'
    exact ⟨_,_,rfl,p,p'⟩
 refine wpAny_newObj_type ?_ (by show 2≤sizeLine; decide)
 have I2:Inv X pins σ H1 { s1 with heap:=s1.heap.push { cls := .type "tuple",data := .seq [u1,u2].toArray } }:=I1.kept (t':=s1.toks) fun b o e=>Heap.get?_push_of_some _ e
 rw [hw]
 refine wpAny_bind (wpAny_pure ?_)
 show wpAny (model X.prog X.w) X.A (do rule "assign.swapped-stores"; let items <- unpackItems (.ref s1.heap.objs.size) 2 none; assignInOrder [fun v=>bindName X.env y v,fun v=>bindName X.env x v] items.reverse; pure Flow.next) _ _ _
 refine wpAny_bind (wpAny_rule (wpAny_bind (unpackItems_tuple (items:=#[u1,u2]) (I.ok.hd hc) (IsTup.new s1.heap _) fun h' hx'=>?_)))
 have I3:=I2.kept (h':=h') (t':=s1.toks) fun b o e=>hx' b o (Nat.ne_of_lt (Heap.lt_size e)) e
 show wpAny _ _ (assignInOrder [fun v=>bindName X.env y v,fun v=>bindName X.env x v] [u2,u1] >>= fun _=>pure Flow.next) _ _ _
 refine wpAny_bind (assignInOrder_cons (wpAny_bindName (qcP I3 hN hj (.inl hy) rw' (fun s2 I4=>?_) (.inr hy))))
 refine assignInOrder_cons (wpAny_bindName (qcP I4 hN hi (.inl hx) rv (fun s3 I5=>assignInOrder_nil (wpAny_pure ?_)) (.inr hx)))
 rw [List.set_comm _ _ (Ne.symm hij)] at I5
 exact ⟨_,H1,I5,q1⟩
end
section
variable {X:Cx}{pos:Pos}
def qi3 (c:TT)(tb:TS):TS:=fun D σ H=>∃ W:Nat->St->Hp->Prop,(∃ m,W m σ H)/\∀ m σ H,W m σ H ->
 c σ H fun b H1=>if b=true then ∃ N:St->Hp->Prop,(∀ σ' H',N σ' H'->∃ m',m' < m/\W m' σ' H')/\tb { D with nx:=N,ct:=N,bk:=D.nx } σ H1 else D.nx σ H1
theorem qfD {c:Expr}{body:List Stmt}{tc:TT}{tb:TS}(hp:PassesOwn (model X.prog X.w) X.A X.env X.xe)(hc:PT X c tc)(hb:PSs X body tb):PS X (.While c body [] pos) (qi3 tc tb):=by
 intro pins s σ H D I h
 obtain ⟨W,⟨m0,w0⟩,turn⟩:=h
 refine wpAny_While (codeAny_whileLoop (fun n s'=>∃ σ' H',Inv X pins σ' H' s'/\W n σ' H') ?_ m0 ⟨σ,H,I,w0⟩)
 rintro n s1 ⟨σ1,H1,I1,w1⟩
 refine wpAny_passesOwn hp (thn (hc pins s1 σ1 H1 _ I1 (turn n σ1 H1 w1)) fun b s2 ⟨H2,I2,q2⟩=>?_)
 cases b with
 | true =>
  obtain ⟨N,hN,q2⟩:=q2
  rw [if_pos rfl]
  refine wpAny_passesOwn hp (thn (hb pins s2 σ1 H2 _ I2 q2) fun f s3 q3=>?_)
  cases f with
  | next =>
   obtain ⟨σ3,H3,I3,n3⟩:=q3
   obtain ⟨m',hm,w3⟩:=hN σ3 H3 n3
   exact ⟨m',hm,σ3,H3,I3,w3⟩
  | cont =>
   obtain ⟨σ3,H3,I3,n3⟩:=q3
   obtain ⟨m',hm,w3⟩:=hN σ3 H3 n3
   exact ⟨m',hm,σ3,H3,I3,w3⟩
  | brk=>exact q3
  | ret v=>exact q3
 | false =>
  rw [if_neg Bool.false_ne_true]
  exact wpAny_execs_nil ⟨σ1,H2,I2,q2⟩
end
structure It where
 go:Nat->Hp->Prop
 yld:Nat->Hp->V->Hp->Prop
 stop:Nat->Hp->Prop
def FpOk (X:Cx)(pins:List (Addr × Obj))(H:Hp)(b:Addr):Prop :=
 H b=none/\b≠X.env.locals/\b ∉ X.fs/\(b∈X.ex\/X.s₀.heap.objs.size≤b)/\(∀ x c,X.env.cells.lookup x=some c->c≠b)/\∀ p∈X.pn ++ pins,p.1≠b
theorem Inv.fpOk {X:Cx}{pins:List (Addr × Obj)}{σ:St}{H H':Hp}{s:Shared}{b:Addr}(I:Inv X pins σ H s)(hb:s.heap.objs.size≤b)(hn:H' b=none):FpOk X pins H' b:=by
 refine ⟨hn,Nat.ne_of_gt (Nat.lt_of_lt_of_le I.lt hb),I.nofs hb,.inr (Nat.le_trans I.sz hb),fun x c e z=>?_,fun p hp z=>?_⟩
 ·obtain ⟨v,q⟩:=I.cell x c e
  exact absurd (Nat.lt_of_lt_of_le q.lt (by rw [z]; exact hb)) (Nat.lt_irrefl _)
 ·exact absurd (Nat.lt_of_lt_of_le (Heap.lt_size (I.pin p hp).1) (by rw [z]; exact hb)) (Nat.lt_irrefl _)
structure Turn (P:Program)(w:World)(K:PySem.W.Frag)(tg:Expr)(J:It)(fp:List Addr)(it:Addr)(tn:Nat->Heap->Prop):Prop where
 mem:it∈fp
 obj:∀ i h,tn i h->∀ b∈fp,∃ o,h.get? b=some o/\∀ v,o.data ≠ .cell v
 keep:∀ i h h',tn i h->(∀ b∈fp,∀ o,h.get? b=some o->h'.get? b=some o)->tn i h'
 item:∀ (X:Cx),X.prog=P->X.w=w->X.K=K->X.calm=true->∀ (i:Nat) (pins:List (Addr × Obj)) (s:Shared) (σ:St) (H:Hp) (E:Value->Shared->Prop),Inv X pins σ H s->(∀ b∈fp,FpOk X pins H b)->tn i s.heap->J.go i H ->
  wpAny (model P w) X.A (pyNext (.ref it)) (fun r s1=>∃ u,r=some u /\
   wpAny (model P w) X.A (letOwnedTupleGo tg (.ref it) u) (fun _ s2=>∃ x H',Inv X pins σ H' s2/\RelV x u/\J.yld i H x H'/\tn (i + 1) s2.heap/\∀ b∈fp,H' b=none) E s1) E s
 done:∀ (X:Cx),X.prog=P->X.w=w->X.K=K->X.calm=true->∀ (i:Nat) (pins:List (Addr × Obj)) (s:Shared) (σ:St) (H:Hp) (E:Value->Shared->Prop),Inv X pins σ H s->(∀ b∈fp,FpOk X pins H b)->tn i s.heap->J.stop i H ->
  wpAny (model P w) X.A (pyNext (.ref it)) (fun r s1=>r=none/\Inv X pins σ H s1) E s
 self:∀ (A:Around) (i:Nat) (s:Shared) (Q:Value->Shared->Prop) (E:Value->Shared->Prop),tn i s.heap->Q (.ref it) s->wpAny (model P w) A (pyIter (.ref it)) Q E s
abbrev TI:=St->Hp->(It->Hp->Prop)->Prop
def PIE (X:Cx)(pins:List (Addr × Obj))(σ:St)(tg:Expr)(R:It->Hp->Prop)(itv:Value)(s2:Shared):Prop :=
 ∃ (it:Addr) (fp:List Addr) (tn:Nat->Heap->Prop) (J:It) (H':Hp),itv = .ref it/\Inv X pins σ H' s2/\Turn X.prog X.w X.K tg J fp it tn/\tn 0 s2.heap/\(∀ b∈fp,FpOk X pins H' b)/\R J H'
def PI (X:Cx)(tg iter:Expr)(wi:TI):Prop :=
 ∀ (pins:List (Addr × Obj)) (s:Shared) (σ:St) (H:Hp) (R:It->Hp->Prop),Inv X pins σ H s->wi σ H R ->
  wpAny (model X.prog X.w) X.A (eval iter X.env) (fun v s1=>wpAny (model X.prog X.w) X.A (pyIter v) (PIE X pins σ tg R) X.xe s1) X.xe s
theorem qkr {M:Model}{A:Around}{E:Value->Shared->Prop}{s:Shared}{tg:Expr}{it:Addr}{u:Value}{o:Obj}{n:String}{vs:Array Value}{Q:Unit->Shared->Prop}(ho:s.heap.get? it=some o)(hc:o.cls = .type n)(hd:o.data = .fields vs)
  (hn:["enumerate", "zip", "dict_itemiterator", "dict_reverseitemiterator", "odict_iterator", "itertools.zip_longest", "itertools.pairwise"].contains n=false) (hQ:Q () s):wpAny M A (letOwnedTupleGo tg (.ref it) u) Q E s:=by
 unfold letOwnedTupleGo
 cases tg <;> first
  | exact wpAny_pure hQ
  | (cases u <;> first
      | exact wpAny_pure hQ
      | (refine wpAny_bind (wpAny_load ho ?_)
         rw [hc,hd]
         show wpAny M A (if (["enumerate", "zip", "dict_itemiterator", "dict_reverseitemiterator", "odict_iterator", "itertools.zip_longest", "itertools.pairwise"].contains n && vs[0]? == some (rawInt _))=true then _ else _) Q E s
         rw [if_neg (by intro h; rw [hn,Bool.false_and] at h; cases h)]
         exact wpAny_pure hQ))
def Itl (K:PySem.W.Frag)(a:Addr):It :=
 ⟨fun i H=>∃ xs x,SqL K H a xs/\xs[i]?=some x,fun i H x H'=>H'=H/\∀ xs,SqL K H a xs->xs[i]?=some x,fun i H=>∃ xs,SqL K H a xs/\xs.length≤i⟩
def Itt (K:PySem.W.Frag)(a:Addr):It :=
 ⟨fun i H=>∃ xs x,SqT K H a xs/\xs[i]?=some x,fun i H x H'=>H'=H/\∀ xs,SqT K H a xs->xs[i]?=some x,fun i H=>∃ xs,SqT K H a xs/\xs.length≤i⟩
def Itr (lo:Int)(n:Nat):It:=⟨fun i _=>i < n,fun i H x H'=>H'=H/\x = .int (lo + i),fun i _=>n≤i⟩
theorem qgC {P:Program}{w:World}{K:PySem.W.Frag}{tg:Expr}(a it:Addr):Turn P w K tg (Itl K a) [it] it (fun i h=>h.IsListIter it a i) where
 mem:=by simp
 obj:=fun i h st b hb=>by
  have e:b=it:=by simpa using hb
  subst e
  obtain ⟨o,e,c,d⟩:=st
  exact ⟨o,e,fun v z=>by rw [d] at z; cases z⟩
 keep:=fun i h h' st k=>st.at fun o e=>k it (by simp) o e
 item:=by
  intro X hP hw hK hc i pins s σ H E I hf st hg
  subst hP hw hK
  obtain ⟨xs,x,hq,hx⟩:=hg
  obtain ⟨its,rv,p,hz⟩:=I.list hq
  obtain ⟨u,hu,ru⟩:=rv.get hx
  obtain ⟨f0,f1,f2,f3,f4,f5⟩:=hf it (by simp)
  refine wpAny_pyNext_list_item st p.isList (x:=u) (by simpa using hu) fun h' st' sb=>?_
  have I1:Inv X pins σ H { s with heap:=h' }:=I.turned (t':=s.toks) (fun b o hb e=>(sb.2 b hb).trans e) f0 f1 f3 f4 f5
  obtain ⟨o,e,c,d⟩:=id st'
  exact ⟨u,rfl,qkr (s:={ s with heap:=h' }) e c d (by decide) ⟨x,H,I1,ru,⟨rfl,fun ys hy=>by rw [I.list_inj hy hq]; exact hx⟩,st',fun b hb=>(hf b hb).1⟩⟩
 done:=by
  intro X hP hw hK hc i pins s σ H E I hf st hg
  subst hP hw hK
  obtain ⟨xs,hq,hx⟩:=hg
  obtain ⟨its,rv,p,hz⟩:=I.list hq
  obtain ⟨f0,f1,f2,f3,f4,f5⟩:=hf it (by simp)
  have hl:=rv.length
  exact wpAny_pyNext_list_end (I.ok.hd hc) st p.isList (by simp; omega) fun h' eb=>⟨rfl,I.turned (t':=s.toks) (fun b o hb e=>eb b o hb e) f0 f1 f3 f4 f5⟩
 self:=fun _ _ _ _ _ st h=>wpAny_pyIter_listiter st h
theorem qfX {P:Program}{w:World}{K:PySem.W.Frag}{tg:Expr}(a it:Addr):Turn P w K tg (Itt K a) [it] it (fun i h=>h.IsTupleIter it a i) where
 mem:=by simp
 obj:=fun i h st b hb=>by
  have e:b=it:=by simpa using hb
  subst e
  obtain ⟨o,e,c,d⟩:=st
  exact ⟨o,e,fun v z=>by rw [d] at z; cases z⟩
 keep:=fun i h h' st k=>st.at fun o e=>k it (by simp) o e
 item:=by
  intro X hP hw hK hc i pins s σ H E I hf st hg
  subst hP hw hK
  obtain ⟨xs,x,hq,hx⟩:=hg
  obtain ⟨its,rv,p,hz⟩:=I.tuple hq
  obtain ⟨u,hu,ru⟩:=rv.get hx
  obtain ⟨f0,f1,f2,f3,f4,f5⟩:=hf it (by simp)
  refine wpAny_pyNext_tuple_item st (show s.heap.IsTuple a its.toArray from p) (x:=u) (by simpa using hu) fun h' st' sb=>?_
  have I1:Inv X pins σ H { s with heap:=h' }:=I.turned (t':=s.toks) (fun b o hb e=>(sb.2 b hb).trans e) f0 f1 f3 f4 f5
  obtain ⟨o,e,c,d⟩:=id st'
  exact ⟨u,rfl,qkr (s:={ s with heap:=h' }) e c d (by decide) ⟨x,H,I1,ru,⟨rfl,fun ys hy=>by rw [I.tuple_inj hy hq]; exact hx⟩,st',fun b hb=>(hf b hb).1⟩⟩
 done:=by
  intro X hP hw hK hc i pins s σ H E I hf st hg
  subst hP hw hK
  obtain ⟨xs,hq,hx⟩:=hg
  obtain ⟨its,rv,p,hz⟩:=I.tuple hq
  obtain ⟨f0,f1,f2,f3,f4,f5⟩:=hf it (by simp)
  have hl:=rv.length
  exact wpAny_pyNext_tuple_end (I.ok.hd hc) st (show s.heap.IsTuple a its.toArray from p) (by simp; omega) fun h' eb=>⟨rfl,I.turned (t':=s.toks) (fun b o hb e=>eb b o hb e) f0 f1 f3 f4 f5⟩
 self:=fun _ _ _ _ _ st h=>wpAny_pyIter_tupleiter st h
theorem qfY {P:Program}{w:World}{K:PySem.W.Frag}{tg:Expr}(it:Addr)(lo:Int)(n:Nat):Turn P w K tg (Itr lo n) [it] it (fun i h=>IsRangeIter h it (lo + (i:Nat) * 1) ((n:Int) - (i:Nat)) 1) where
 mem:=by simp
 obj:=fun i h st b hb=>by
  have e:b=it:=by simpa using hb
  subst e
  exact ⟨_,st,fun v z=>by
   have z':Data.fields _=Data.cell v:=z
   cases z'⟩
 keep:=fun i h h' st k=>k it (by simp) _ st
 item:=by
  intro X hP hw hK hc i pins s σ H E I hf st hg
  subst hP hw hK
  obtain ⟨f0,f1,f2,f3,f4,f5⟩:=hf it (by simp)
  have W:=Walks.range (prog:=X.prog) (w:=X.w) (I.ok.hd hc) it lo 1 n
  refine W.item i s _ _ hg st fun v h' tk hv st' kk=>?_
  obtain ⟨t,rfl⟩:=hv
  have I1:Inv X pins σ H { s with heap:=h',toks:=tk }:=I.turned (fun b o hb e=>kk b o (by simpa using hb) e) f0 f1 f3 f4 f5
  refine ⟨_,rfl,qkr (s:={ s with heap:=h',toks:=tk }) (n := "range_iterator") st' rfl rfl (by decide) ⟨.int (lo + i),H,I1,⟨t,?_⟩,⟨rfl,rfl⟩,st',fun b hb=>(hf b hb).1⟩⟩
  rw [Int.mul_one]
 done:=by
  intro X hP hw hK hc i pins s σ H E I hf st hg
  subst hP hw hK
  obtain ⟨f0,f1,f2,f3,f4,f5⟩:=hf it (by simp)
  exact wpAny_pyNext_range_end (I.ok.hd hc) st (by have:n≤i:=hg; omega) fun h' eb=>⟨rfl,I.turned (t':=s.toks) (fun b o hb e=>eb b o hb e) f0 f1 f3 f4 f5⟩
 self:=fun _ _ _ _ _ st h=>wpAny_pyIter_rangeiter st h
section
variable {X:Cx}{tg:Expr}
def iList (K:PySem.W.Frag)(tl:TE):TI:=fun σ H R=>tl σ H fun x H1=>∃ a,x = .ref a/\(∃ xs,SqL K H1 a xs)/\R (Itl K a) H1
def iTup (K:PySem.W.Frag)(tl:TE):TI:=fun σ H R=>tl σ H fun x H1=>∃ a,x = .ref a/\(∃ xs,SqT K H1 a xs)/\R (Itt K a) H1
theorem qbe {l:Expr}{tl:TE}(hl:PE X l tl):PI X tg l (iList X.K tl):=by
 intro pins s σ H R I h
 refine thn (hl pins s σ H _ I h) fun v s1 ⟨x,H1,I1,r1,q1⟩=>?_
 obtain ⟨a,e,⟨xs,hq⟩,q⟩:=q1
 subst e
 cases r1
 obtain ⟨its,rv,p,hz⟩:=I1.list hq
 refine wpAny_pyIter_list p.isList ?_
 refine ⟨s1.heap.objs.size,[s1.heap.objs.size],_,_,H1,rfl,I1.kept (t':=s1.toks) fun b o e=>Heap.get?_push_of_some _ e,qgC a _,⟨_,Heap.get?_push_size _ rfl,rfl,rfl⟩,fun b hb=>?_,q⟩
 have e:b=s1.heap.objs.size:=by simpa using hb
 subst e
 exact I1.fpOk (Nat.le_refl _) (I1.hok.fresh (Nat.le_refl _))
theorem qg2 {l:Expr}{tl:TE}(hl:PE X l tl):PI X tg l (iTup X.K tl):=by
 intro pins s σ H R I h
 refine thn (hl pins s σ H _ I h) fun v s1 ⟨x,H1,I1,r1,q1⟩=>?_
 obtain ⟨a,e,⟨xs,hq⟩,q⟩:=q1
 subst e
 cases r1
 obtain ⟨its,rv,p,hz⟩:=I1.tuple hq
 refine wpAny_pyIter_tuple (show s1.heap.IsTuple a its.toArray from p) ?_
 refine ⟨s1.heap.objs.size,[s1.heap.objs.size],_,_,H1,rfl,I1.kept (t':=s1.toks) fun b o e=>Heap.get?_push_of_some _ e,qfX a _,⟨_,Heap.get?_push_size _ rfl,rfl,rfl⟩,fun b hb=>?_,q⟩
 have e:b=s1.heap.objs.size:=by simpa using hb
 subst e
 exact I1.fpOk (Nat.le_refl _) (I1.hok.fresh (Nat.le_refl _))
theorem qio {pins:List (Addr × Obj)}{σ:St}{H:Hp}{s:Shared}{R:It->Hp->Prop}{E:Value->Shared->Prop}{lo hi:Int}{t u v:Tok}{tk:Nat}(I:Inv X pins σ H s)(h1:-(2 ^ 62)≤lo)(h2:lo < 2 ^ 62)(h3:-(2 ^ 62)≤hi)(h4:hi < 2 ^ 62)
  (q:R (Itr lo (hi - lo).toNat) H):wpAny (model X.prog X.w) X.A (pyIter (.ref s.heap.objs.size)) (PIE X pins σ tg R) E { s with heap:=s.heap.push { cls := .type "range",data := .fields #[.int lo t,.int hi u,.int 1 v] },toks:=tk }:=by
 refine wpAny_pyIter_range (IsRange.new ..) (small_one h1 h2 h3 h4) ?_
 have I1:Inv X pins σ H { s with heap:=s.heap.push { cls := .type "range",data := .fields #[.int lo t,.int hi u,.int 1 v] },toks:=tk }:=I.kept fun b o e=>Heap.get?_push_of_some _ e
 refine ⟨(s.heap.push { cls := .type "range",data := .fields #[.int lo t,.int hi u,.int 1 v] }).objs.size,[(s.heap.push { cls := .type "range",data := .fields #[.int lo t,.int hi u,.int 1 v] }).objs.size],_,_,H,rfl,
  I1.kept (t':=tk) fun b o e=>Heap.get?_push_of_some _ e,qfY _ lo (hi - lo).toNat,?_,fun b hb=>?_,q⟩
 ·have e1:lo + ((0:Nat):Int) * 1=lo:=by simp
  have e2:(((hi - lo).toNat:Nat):Int) - ((0:Nat):Int)=Builtin.Range.rangeSize lo hi 1:=by rw [rangeSize_one]; split <;> omega
  show IsRangeIter _ _ (lo + ((0:Nat):Int) * 1) ((((hi - lo).toNat:Nat):Int) - ((0:Nat):Int)) 1
  rw [e1,e2]
  exact Heap.get?_push_size _ rfl
 ·have e:b=(s.heap.push { cls := .type "range",data := .fields #[.int lo t,.int hi u,.int 1 v] }).objs.size:=by simpa using hb
  subst e
  exact I1.fpOk (Nat.le_refl _) (I1.hok.fresh (Nat.le_refl _))
def iRng1 (ta:TA):TI:=fun σ H R=>ta σ H fun vs H1=>∃ j:Int,vs=[.int j]/\-(2 ^ 62)≤j/\j < 2 ^ 62/\R (Itr 0 j.toNat) H1
theorem qcd {a:Expr}{ta:TA}{p pos:Pos}(hg:Gl X "range")(hm:X.mg "range" = none)(ha:PA X [a] ta)(hs:starEach [a] X.env=[(false,eval a X.env)]:=by rfl):PI X tg (.Call (.Name "range" p) [a] [] pos) (iRng1 ta):=by
 intro pins s σ H R I h
 refine Call_ (qcJ I hg hm boot_range (PyProof.Rows.callWith_type1 (thn (ha pos pins s σ H _ I h) fun us s1 ⟨vs,H1,I1,r1,q1⟩=>?_) hs rfl))
 obtain ⟨j,e,q1,q2,q⟩:=q1
 subst e
 cases r1 with
 | cons r rr =>
  cases rr
  obtain ⟨t,rfl⟩:=r
  exact call_range_1 (qio I1 (by omega) (by omega) q1 q2 (by simpa using q))
def tFor (wi:TI)(g:TG)(tb:TS):TS:=fun D σ H=>wi σ H fun J H1=>∃ W:Nat->Nat->St->Hp->Prop,(∃ m,W 0 m σ H1)/\∀ i m σ H,W i m σ H ->
 (J.stop i H/\D.nx σ H)\/(J.go i H/\∃ N:St->Hp->Prop,(∀ σ' H',N σ' H'->∃ m',m' < m/\W (i + 1) m' σ' H')/\∀ x H',J.yld i H x H'->g x σ H' fun σ2 H2=>tb { D with nx:=N,ct:=N,bk:=D.nx } σ2 H2)
def qc6 (fp:List Addr)(h:Heap):List (Addr × Obj):=fp.filterMap fun b=>(h.get? b).map fun o=>(b,o)
theorem qbb {fp:List Addr}{h:Heap}{b:Addr}{o:Obj}(hb:b∈fp)(e:h.get? b=some o):(b,o)∈qc6 fp h:=List.mem_filterMap.mpr ⟨b,hb,by rw [e]; rfl⟩
theorem qhf {fp:List Addr}{h:Heap}{p:Addr × Obj}(hp:p∈qc6 fp h):p.1∈fp/\h.get? p.1=some p.2:=by
 obtain ⟨b,hb,e⟩:=List.mem_filterMap.mp hp
 cases q:h.get? b with
 | none=>rw [q] at e; cases e
 | some o =>
  rw [q] at e
  have e':(b,o)=p:=Option.some.inj e
  subst e'
  exact ⟨hb,q⟩
theorem Inv.pinned {pins:List (Addr × Obj)}{σ:St}{H:Hp}{s:Shared}{fp:List Addr}(I:Inv X pins σ H s)(hf:∀ b∈fp,FpOk X pins H b)(ho:∀ b∈fp,∃ o,s.heap.get? b=some o/\∀ v,o.data ≠ .cell v):Inv X (pins ++ qc6 fp s.heap) σ H s :=
 I.pins_of fun p hp=>(List.mem_append.mp hp).elim (fun z=>I.pin p (List.mem_append_right _ z)) fun z=>by
  obtain ⟨hb,e⟩:=qhf z
  obtain ⟨f0,f1,f2,_⟩:=hf p.1 hb
  obtain ⟨o,e',d⟩:=ho p.1 hb
  rw [e] at e'; cases e'
  exact ⟨e,f0,f1,f2,d⟩
theorem Inv.unpinned {pins pl:List (Addr × Obj)}{σ:St}{H:Hp}{s:Shared}(I:Inv X (pins ++ pl) σ H s):Inv X pins σ H s:=I.pins_of fun p hp=>I.pin p (List.mem_append_right _ (List.mem_append_left _ hp))
theorem qbK {iter:Expr}{body:List Stmt}{wi:TI}{g:TG}{tb:TS}{pos:Pos}(hp:PassesOwn (model X.prog X.w) X.A X.env X.xe)(hc:X.calm=true)(hi:PI X tg iter wi)(hg:PG X tg g)(hb:PSs X body tb)
  (hs:∀ x,foldedSetIterable iter X.env x=pure x:=by intro _; rfl):PS X (.For tg iter body [] pos) (tFor wi g tb):=by
 intro pins s σ H D I h
 refine wpAny_For (thn (hi pins s σ H _ I h) fun v s1 h1=>thn h1 fun itv s2 h2=>?_) hs
 obtain ⟨it,fp,tn,J,H2,e,I2,T,st2,f2,W,⟨m0,w0⟩,turn⟩:=h2
 subst e
 have stat:∀ {H':Hp},(∀ b∈fp,H' b=none)->∀ b∈fp,FpOk X pins H' b:=fun hn b hb=>⟨hn b hb,(f2 b hb).2⟩
 refine codeAny_forLoop_any (fun n s'=>∃ i σ' H',Inv X pins σ' H' s'/\tn i s'.heap/\(∀ b∈fp,H' b=none)/\W i n σ' H') ?_ m0 ⟨0,σ,H2,I2,st2,fun b hb=>(f2 b hb).1,w0⟩
 rintro n s3 ⟨i,σ3,H3,I3,st3,fr3,w3⟩
 rcases turn i n σ3 H3 w3 with ⟨stop,qn⟩ | ⟨go,N,hN,step⟩
 ·refine wpAny_passesOwn hp (thn (T.done X rfl rfl rfl hc i pins s3 σ3 H3 X.xe I3 (stat fr3) st3 stop) fun r s4 ⟨hr,I4⟩=>?_)
  subst hr
  exact wpAny_execs_nil ⟨σ3,H3,I4,qn⟩
 ·refine wpAny_passesOwn hp (thn (T.item X rfl rfl rfl hc i pins s3 σ3 H3 X.xe I3 (stat fr3) st3 go) fun r s4 ⟨u,hr,h4⟩=>?_)
  subst hr
  refine wpAny_passesOwn hp (thn h4 fun _ s5 ⟨x,H5,I5,r5,y5,st5,fr5⟩=>?_)
  have I5':=I5.pinned (stat fr5) (T.obj _ _ st5)
  refine wpAny_passesOwn hp (thn (hg _ s5 σ3 H5 x u _ I5' r5 (step x H5 y5)) fun _ s6 ⟨σ6,H6,I6,q6⟩=>?_)
  refine wpAny_passesOwn hp (thn (hb _ s6 σ6 H6 _ I6 q6) fun f s7 q7=>?_)
  have again:∀ {σ7:St} {H7:Hp},Inv X (pins ++ qc6 fp s5.heap) σ7 H7 s7->N σ7 H7->∃ m,m < n/\∃ i σ' H',Inv X pins σ' H' s7/\tn i s7.heap/\(∀ b∈fp,H' b=none)/\W i m σ' H':=fun {σ7 H7} I7 n7=>by
   obtain ⟨m',hm,w7⟩:=hN σ7 H7 n7
   refine ⟨m',hm,i + 1,σ7,H7,I7.unpinned,T.keep _ _ _ st5 fun b hb o e=>(I7.pin (b,o) (List.mem_append_right _ (List.mem_append_right _ (qbb hb e)))).1,fun b hb=>?_,w7⟩
   obtain ⟨o,e,d⟩:=T.obj _ _ st5 b hb
   exact (I7.pin (b,o) (List.mem_append_right _ (List.mem_append_right _ (qbb hb e)))).2.1
  cases f with
  | next=>obtain ⟨σ7,H7,I7,n7⟩:=q7; exact again I7 n7
  | cont=>obtain ⟨σ7,H7,I7,n7⟩:=q7; exact again I7 n7
  | brk=>obtain ⟨σ7,H7,I7,q7⟩:=q7; exact ⟨σ7,H7,I7.unpinned,q7⟩
  | ret v=>obtain ⟨x7,σ7,H7,I7,r7,q7⟩:=q7; exact ⟨x7,σ7,H7,I7.unpinned,r7,q7⟩
end
theorem qd1 {K:PySem.W.Frag}{a:Addr}{xs:List V}{g:TG}{tb:TS}{D:Ends}{σ:St}{H:Hp}(Pv:Nat->St->Hp->Prop)(h0:Pv 0 σ H)(hl:∀ i σ H,i≤xs.length->Pv i σ H->SqL K H a xs)
  (hs:∀ i x σ H,xs[i]?=some x->Pv i σ H->g x σ H fun σ2 H2=>tb { D with nx:=Pv (i + 1),ct:=Pv (i + 1),bk:=D.nx } σ2 H2) (hd:∀ σ H,Pv xs.length σ H->D.nx σ H) :
  ∃ W:Nat->Nat->St->Hp->Prop,(∃ m,W 0 m σ H)/\∀ i m σ H,W i m σ H ->
   ((Itl K a).stop i H/\D.nx σ H)\/((Itl K a).go i H/\∃ N:St->Hp->Prop,(∀ σ' H',N σ' H'->∃ m',m' < m/\W (i + 1) m' σ' H')/\∀ x H',(Itl K a).yld i H x H'->g x σ H' fun σ2 H2=>tb { D with nx:=N,ct:=N,bk:=D.nx } σ2 H2):=by
 refine ⟨fun i m σ H=>m=xs.length - i/\i≤xs.length/\Pv i σ H,⟨xs.length,by simp,Nat.zero_le _,h0⟩,?_⟩
 rintro i m σ H ⟨rfl,hi,p⟩
 have q:=hl i σ H hi p
 by_cases hlt:i < xs.length
 ·refine .inr ⟨⟨xs,xs[i],q,by simp [hlt]⟩,Pv (i + 1),fun σ' H' p'=>⟨xs.length - (i + 1),by omega,rfl,hlt,p'⟩,fun x H' y=>?_⟩
  obtain ⟨e,y⟩:=y
  subst e
  exact hs i x σ _ (y xs q) p
 ·have e:i=xs.length:=by omega
  subst e
  exact .inl ⟨⟨xs,q,Nat.le_refl _⟩,hd σ H p⟩
theorem qhE {K:PySem.W.Frag}{a:Addr}{xs:List V}{g:TG}{tb:TS}{D:Ends}{σ:St}{H:Hp}(Pv:Nat->St->Hp->Prop)(h0:Pv 0 σ H)(hl:∀ i σ H,i≤xs.length->Pv i σ H->SqT K H a xs)
  (hs:∀ i x σ H,xs[i]?=some x->Pv i σ H->g x σ H fun σ2 H2=>tb { D with nx:=Pv (i + 1),ct:=Pv (i + 1),bk:=D.nx } σ2 H2) (hd:∀ σ H,Pv xs.length σ H->D.nx σ H) :
  ∃ W:Nat->Nat->St->Hp->Prop,(∃ m,W 0 m σ H)/\∀ i m σ H,W i m σ H ->
   ((Itt K a).stop i H/\D.nx σ H)\/((Itt K a).go i H/\∃ N:St->Hp->Prop,(∀ σ' H',N σ' H'->∃ m',m' < m/\W (i + 1) m' σ' H')/\∀ x H',(Itt K a).yld i H x H'->g x σ H' fun σ2 H2=>tb { D with nx:=N,ct:=N,bk:=D.nx } σ2 H2):=by
 refine ⟨fun i m σ H=>m=xs.length - i/\i≤xs.length/\Pv i σ H,⟨xs.length,by simp,Nat.zero_le _,h0⟩,?_⟩
 rintro i m σ H ⟨rfl,hi,p⟩
 have q:=hl i σ H hi p
 by_cases hlt:i < xs.length
 ·refine .inr ⟨⟨xs,xs[i],q,by simp [hlt]⟩,Pv (i + 1),fun σ' H' p'=>⟨xs.length - (i + 1),by omega,rfl,hlt,p'⟩,fun x H' y=>?_⟩
  obtain ⟨e,y⟩:=y
  subst e
  exact hs i x σ _ (y xs q) p
 ·have e:i=xs.length:=by omega
  subst e
  exact .inl ⟨⟨xs,q,Nat.le_refl _⟩,hd σ H p⟩
theorem qci {lo:Int}{n:Nat}{g:TG}{tb:TS}{D:Ends}{σ:St}{H:Hp}(Pv:Nat->St->Hp->Prop)(h0:Pv 0 σ H)
  (hs:∀ i σ H,i < n->Pv i σ H->g (.int (lo + i)) σ H fun σ2 H2=>tb { D with nx:=Pv (i + 1),ct:=Pv (i + 1),bk:=D.nx } σ2 H2) (hd:∀ σ H,Pv n σ H->D.nx σ H) :
  ∃ W:Nat->Nat->St->Hp->Prop,(∃ m,W 0 m σ H)/\∀ i m σ H,W i m σ H ->
   ((Itr lo n).stop i H/\D.nx σ H)\/((Itr lo n).go i H/\∃ N:St->Hp->Prop,(∀ σ' H',N σ' H'->∃ m',m' < m/\W (i + 1) m' σ' H')/\∀ x H',(Itr lo n).yld i H x H'->g x σ H' fun σ2 H2=>tb { D with nx:=N,ct:=N,bk:=D.nx } σ2 H2):=by
 refine ⟨fun i m σ H=>m=n - i/\i≤n/\Pv i σ H,⟨n,by simp,Nat.zero_le _,h0⟩,?_⟩
 rintro i m σ H ⟨rfl,hi,p⟩
 by_cases hlt:i < n
 ·refine .inr ⟨hlt,Pv (i + 1),fun σ' H' p'=>⟨n - (i + 1),by omega,rfl,hlt,p'⟩,fun x H' y=>?_⟩
  obtain ⟨e,y⟩:=y
  subst e y
  exact hs i σ _ hlt p
 ·have e:i=n:=by omega
  subst e
  exact .inl ⟨Nat.le_refl _,hd σ H p⟩
theorem qfs {c:TT}{tb:TS}{D:Ends}{σ:St}{H:Hp}(Pv:St->Hp->Prop)(μ:St->Hp->Nat)(h0:Pv σ H)
  (hs:∀ σ H,Pv σ H->c σ H fun b H1=>if b=true then tb { D with nx:=fun σ' H'=>Pv σ' H'/\μ σ' H' < μ σ H,ct:=fun σ' H'=>Pv σ' H'/\μ σ' H' < μ σ H,bk:=D.nx } σ H1 else D.nx σ H1)
  (mono:∀ σ H Q Q',(∀ b H1,Q b H1->Q' b H1)->c σ H Q->c σ H Q'):qi3 c tb D σ H:=by
 refine ⟨fun m σ H=>m=μ σ H/\Pv σ H,⟨_,rfl,h0⟩,?_⟩
 rintro m σ H ⟨rfl,p⟩
 refine mono σ H _ _ (fun b H1 q=>?_) (hs σ H p)
 cases b with
 | true=>exact ⟨_,fun σ' H' ⟨p',l⟩=>⟨_,l,rfl,p'⟩,q⟩
 | false=>exact q
abbrev R2:=V->V->Hp->VK->Prop
def OpR (X:Cx)(f:Value->Value->Sem Value)(r:R2):Prop :=
 ∀ (pins:List (Addr × Obj)) (s:Shared) (σ:St) (H:Hp) (x y:V) (v u:Value) (Q:VK),Inv X pins σ H s->RelV x v->RelV y u->r x y H Q ->
  wpAny (model X.prog X.w) X.A (f v u) (EP X pins σ Q) X.xe s
def UnR (X:Cx)(f:Value->Sem Value)(r:V->Hp->VK->Prop):Prop :=
 ∀ (pins:List (Addr × Obj)) (s:Shared) (σ:St) (H:Hp) (x:V) (v:Value) (Q:VK),Inv X pins σ H s->RelV x v->r x H Q ->
  wpAny (model X.prog X.w) X.A (f v) (EP X pins σ Q) X.xe s
def qbP (X:Cx)(f:Value)(r:List V->Hp->VK->Prop):Prop :=
 ∀ (pins:List (Addr × Obj)) (s:Shared) (σ:St) (H:Hp) (xs:List V) (us:List Value) (Q:VK),Inv X pins σ H s->Vals xs us->r xs H Q ->
  wpAny (model X.prog X.w) X.A (call f us) (EP X pins σ Q) X.xe s
def tOp (r:R2)(ta tb:TE):TE:=fun σ H Q=>ta σ H fun x H1=>tb σ H1 fun y H2=>r x y H2 Q
def tUn (r:V->Hp->VK->Prop)(ta:TE):TE:=fun σ H Q=>ta σ H fun x H1=>r x H1 Q
def rI (C:Int->Int->Prop)(g:Int->Int->V):R2:=fun x y H Q=>∃ i j,x = .int i/\y = .int j/\C i j/\Q (g i j) H
def rI0 (g:Int->Int->V):R2:=fun x y H Q=>∃ i j,x = .int i/\y = .int j/\Q (g i j) H
def rU (g:Int->V):V->Hp->VK->Prop:=fun x H Q=>∃ i,x = .int i/\Q (g i) H
section
variable {X:Cx}{a b c:Expr}{ta tb tc:TE}{pos:Pos}
theorem binT (ha:PE X a ta)(hb:PE X b tb){pins:List (Addr × Obj)}{s:Shared}{σ:St}{H:Hp}{R:V->V->Hp->Prop}(I:Inv X pins σ H s)
  (h:ta σ H fun x H1=>tb σ H1 fun y H2=>R x y H2) {Q:Value->Shared->Prop} {f:Value->Value->Sem Value}
  (hf:∀ v u s2 x y H2,Inv X pins σ H2 s2->RelV x v->RelV y u->R x y H2->wpAny (model X.prog X.w) X.A (f v u) Q X.xe s2) :
  wpAny (model X.prog X.w) X.A (eval a X.env) (fun v s₁=>wpAny (model X.prog X.w) X.A (eval b X.env) (fun u s₂=>wpAny (model X.prog X.w) X.A (f v u) Q X.xe s₂) X.xe s₁) X.xe s:=by
 refine thn (ha pins s σ H _ I h) fun v s1 ⟨x,H1,I1,r1,q1⟩=>?_
 refine thn (hb pins s1 σ H1 _ I1 q1) fun u s2 ⟨y,H2,I2,r2,q2⟩=>?_
 exact hf v u s2 x y H2 I2 r1 r2 q2
theorem pP {op:Operator}{r:R2}(ho:OpR X (binaryOp op) r)(ha:PE X a ta)(hb:PE X b tb):PE X (.BinOp a op b pos) (tOp r ta tb):=by
 intro pins s σ H Q I h
 exact wpAny_BinOp (binT ha hb I h fun v u s2 x y H2 I2 rx ry q=>ho pins s2 σ H2 x y v u Q I2 rx ry q)
theorem qf7 {op:UnaryOp}{r:V->Hp->VK->Prop}(ho:UnR X (unaryOp op) r)(ha:PE X a ta):PE X (.UnaryOp op a pos) (tUn r ta):=by
 intro pins s σ H Q I h
 exact UnaryOp_ (thn (ha pins s σ H _ I h) fun v s1 ⟨x,H1,I1,r1,q1⟩=>ho pins s1 σ H1 x v Q I1 r1 q1)
theorem opI {f:Value->Value->Sem Value}{C:Int->Int->Prop}{g:Int->Int->Int}
  (rule:∀ (i j:Int) (t u:Tok) (s:Shared) (Q:Value->Shared->Prop) (E:Value->Shared->Prop),C i j->Q (.int (g i j) s.toks) { s with toks:=s.toks + 1 }->wpAny (model X.prog X.w) X.A (f (.int i t) (.int j u)) Q E s) :
  OpR X f (rI C fun i j => .int (g i j)):=by
 intro pins s σ H x y v u Q I rx ry h
 obtain ⟨i,j,rfl,rfl,hc,q⟩:=h
 obtain ⟨t,rfl⟩:=rx
 obtain ⟨t',rfl⟩:=ry
 exact rule i j t t' s _ _ hc ⟨.int (g i j),H,I.tok _,⟨_,rfl⟩,q⟩
theorem opI0 {f:Value->Value->Sem Value}{g:Int->Int->Int}
  (rule:∀ (i j:Int) (t u:Tok) (s:Shared) (Q:Value->Shared->Prop) (E:Value->Shared->Prop),Q (.int (g i j) s.toks) { s with toks:=s.toks + 1 }->wpAny (model X.prog X.w) X.A (f (.int i t) (.int j u)) Q E s) :
  OpR X f (rI0 fun i j => .int (g i j)):=by
 intro pins s σ H x y v u Q I rx ry h
 obtain ⟨i,j,rfl,rfl,q⟩:=h
 obtain ⟨t,rfl⟩:=rx
 obtain ⟨t',rfl⟩:=ry
 exact rule i j t t' s _ _ ⟨.int (g i j),H,I.tok _,⟨_,rfl⟩,q⟩
theorem opB0 {f:Value->Value->Sem Value}{g:Int->Int->Bool}
  (rule:∀ (i j:Int) (t u:Tok) (s:Shared) (Q:Value->Shared->Prop) (E:Value->Shared->Prop),Q (.bool (g i j)) s->wpAny (model X.prog X.w) X.A (f (.int i t) (.int j u)) Q E s) :
  OpR X f (rI0 fun i j => .bl (g i j)):=by
 intro pins s σ H x y v u Q I rx ry h
 obtain ⟨i,j,rfl,rfl,q⟩:=h
 obtain ⟨t,rfl⟩:=rx
 obtain ⟨t',rfl⟩:=ry
 exact rule i j t t' s _ _ ⟨.bl (g i j),H,I,rfl,q⟩
def CDiv (i j:Int):Prop:=0 < j/\j < 1073741824
def CPow (i j:Int):Prop:=0≤j/\j≤1000000/\i.natAbs < 2 ^ 64
def CMul (i j:Int):Prop:=(-(2 ^ 64) < i/\i < 2 ^ 64)\/(-(2 ^ 64) < j/\j < 2 ^ 64)
theorem CMul.ok {i j:Int}(h:CMul i j):IntMulOk i j:=by
 rcases h with ⟨h1,h2⟩ | ⟨h1,h2⟩
 ·exact .of_left (intBits_le_64 h1 h2)
 ·exact .of_right (intBits_le_64 h1 h2)
theorem qaJ:OpR X (binaryOp .Add) (rI0 fun i j => .int (i + j)):=opI0 fun _ _ _ _ _ _ _ q=>add_int q
theorem qen:OpR X (binaryOp .Sub) (rI0 fun i j => .int (i - j)):=opI0 fun _ _ _ _ _ _ _ q=>sub_int q
theorem qbX:OpR X (binaryOp .Mult) (rI CMul fun i j => .int (i * j)):=opI fun _ _ _ _ _ _ _ hc q=>mul_int q hc.ok
theorem qe2:OpR X (binaryOp .FloorDiv) (rI CDiv fun i j => .int (i / j)):=opI fun i j _ _ _ _ _ hc q=>by
 have h1:(0:Int) < j:=hc.1
 have h2:j < 1073741824:=hc.2
 exact floordiv_int (by omega) (by rw [Int.fdiv_eq_ediv_of_nonneg i (by omega)]; exact q) (.inl (PyProof.noPylong_small (by omega)))
theorem qbG:OpR X (binaryOp .Mod) (rI (fun _ j=>0 < j) fun i j => .int (i % j)):=opI fun i j _ _ _ _ _ hc q=>by
 have h1:(0:Int) < j:=hc
 exact mod_int' (by omega) (by rw [Int.fmod_eq_emod_of_nonneg i (by omega)]; exact q)
theorem qld:OpR X (binaryOp .Pow) (rI CPow fun i j => .int (i ^ j.toNat)):=opI fun _ _ _ _ _ _ _ hc q=>pow_int_small hc.1 hc.2.1 hc.2.2 q
theorem unI {f:Value->Sem Value}{g:Int->Int}
  (rule:∀ (i:Int) (t:Tok) (s:Shared) (Q:Value->Shared->Prop) (E:Value->Shared->Prop),Q (.int (g i) s.toks) { s with toks:=s.toks + 1 }->wpAny (model X.prog X.w) X.A (f (.int i t)) Q E s) :
  UnR X f (rU fun i => .int (g i)):=by
 intro pins s σ H x v Q I rx h
 obtain ⟨i,rfl,q⟩:=h
 obtain ⟨t,rfl⟩:=rx
 exact rule i t s _ _ ⟨.int (g i),H,I.tok _,⟨_,rfl⟩,q⟩
theorem qds:UnR X (unaryOp .USub) (rU fun i => .int (-i)):=unI fun _ _ _ _ _ q=>neg_int q
end
def scal:V->V->Bool
 | .non,.non=>true | .non,.int _=>true | .int _,.non=>true | .non,.bl _=>true | .bl _,.non=>true | .non,.str _=>true | .str _,.non=>true
 | .int _,.int _=>true | .bl _,.bl _=>true | .str _,.str _=>true | .byt _,.byt _=>true
 | .int _,.str _=>true | .str _,.int _=>true | .bl _,.str _=>true | .str _,.bl _=>true
 | _,_=>false
def rEq:R2:=fun x y H Q=>scal x y=true/\Q (.bl (decide (x=y))) H
def rNe:R2:=fun x y H Q=>scal x y=true/\Q (.bl (!decide (x=y))) H
theorem qhO {i j:Int}:decide (V.int i=V.int j)=(i == j):=by
 rw [Bool.eq_iff_iff]
 simp
theorem qjo {i j:Bool}:decide (V.bl i=V.bl j)=(i == j):=by
 rw [Bool.eq_iff_iff]
 simp
theorem qhN {i j:Str}:decide (V.str i=V.str j)=(i == j):=by
 rw [Bool.eq_iff_iff]
 simp
theorem qhP {i j:Array UInt8}:decide (V.byt i=V.byt j)=(i.toList == j.toList):=by
 rw [Bool.eq_iff_iff]
 cases i
 cases j
 simp
section
variable {X:Cx}{a b c:Expr}{ta tb tc:TE}{pos:Pos}
theorem qat {pins:List (Addr × Obj)}{σ:St}{H:Hp}{s:Shared}{Q:VK}{k k':Bool}(I:Inv X pins σ H s)(q:Q (.bl k) H)(e:k=k'):EP X pins σ Q (.bool k') s:=by
 subst e
 exact ⟨.bl k,H,I,rfl,q⟩
theorem qdq:OpR X (compareOp .Eq) rEq:=by
 intro pins s σ H x y v u Q I rx ry h
 obtain ⟨hs,q⟩:=h
 cases x with
 | non =>
  cases rx
  cases y with
  | non=>cases ry; exact PySem.EqNone.eq_none_none (qat I q (by simp))
  | bl j=>cases ry; exact PySem.EqNone.eq_none_bool (qat I q (by simp))
  | int j=>obtain ⟨t',rfl⟩:=ry; exact PySem.EqNone.eq_none_int (qat I q (by simp))
  | str j=>obtain ⟨t',rfl⟩:=ry; exact PySem.EqNone.eq_none_str (qat I q (by simp))
  | _=>exact absurd (show false=true from hs) Bool.false_ne_true
 | bl i =>
  cases rx
  cases y with
  | non=>cases ry; exact PySem.EqNone.eq_bool_none (qat I q (by simp))
  | bl j=>cases ry; exact eq_bool (qat I q qjo)
  | str j=>obtain ⟨t',rfl⟩:=ry; exact PySem.EqMixed.eq_bool_str (qat I q (by simp))
  | _=>exact absurd (show false=true from hs) Bool.false_ne_true
 | int i =>
  obtain ⟨t,rfl⟩:=rx
  cases y with
  | non=>cases ry; exact PySem.EqNone.eq_int_none (qat I q (by simp))
  | int j=>obtain ⟨t',rfl⟩:=ry; exact eq_int (qat I q qhO)
  | str j=>obtain ⟨t',rfl⟩:=ry; exact PySem.EqMixed.eq_int_str (qat I q (by simp))
  | _=>exact absurd (show false=true from hs) Bool.false_ne_true
 | str i =>
  obtain ⟨t,rfl⟩:=rx
  cases y with
  | non=>cases ry; exact PySem.EqNone.eq_str_none (qat I q (by simp))
  | bl j=>cases ry; exact PySem.EqMixed.eq_str_bool (qat I q (by simp))
  | int j=>obtain ⟨t',rfl⟩:=ry; exact PySem.EqMixed.eq_str_int (qat I q (by simp))
  | str j=>obtain ⟨t',rfl⟩:=ry; exact eq_str (qat I q qhN)
  | _=>exact absurd (show false=true from hs) Bool.false_ne_true
 | byt i =>
  obtain ⟨t,rfl⟩:=rx
  cases y with
  | byt j=>obtain ⟨t',rfl⟩:=ry; exact PySem.W.eq_bytes (qat I q qhP)
  | _=>exact absurd (show false=true from hs) Bool.false_ne_true
 | _=>cases y <;> exact absurd (show false=true from hs) Bool.false_ne_true
theorem qeo:OpR X (compareOp .NotEq) rNe:=by
 intro pins s σ H x y v u Q I rx ry h
 obtain ⟨hs,q⟩:=h
 cases x with
 | non =>
  cases rx
  cases y with
  | non=>cases ry; exact PySem.EqNone.ne_none_none (qat I q (by simp))
  | bl j=>cases ry; exact PySem.EqNone.ne_none_bool (qat I q (by simp))
  | int j=>obtain ⟨t',rfl⟩:=ry; exact PySem.EqNone.ne_none_int (qat I q (by simp))
  | str j=>obtain ⟨t',rfl⟩:=ry; exact PySem.EqNone.ne_none_str (qat I q (by simp))
  | _=>exact absurd (show false=true from hs) Bool.false_ne_true
 | bl i =>
  cases rx
  cases y with
  | non=>cases ry; exact PySem.EqNone.ne_bool_none (qat I q (by simp))
  | bl j=>cases ry; exact ne_bool (qat I q (congrArg not qjo))
  | str j=>obtain ⟨t',rfl⟩:=ry; exact PySem.EqMixed.ne_bool_str (qat I q (by simp))
  | _=>exact absurd (show false=true from hs) Bool.false_ne_true
 | int i =>
  obtain ⟨t,rfl⟩:=rx
  cases y with
  | non=>cases ry; exact PySem.EqNone.ne_int_none (qat I q (by simp))
  | int j=>obtain ⟨t',rfl⟩:=ry; exact ne_int (qat I q (congrArg not qhO))
  | str j=>obtain ⟨t',rfl⟩:=ry; exact PySem.EqMixed.ne_int_str (qat I q (by simp))
  | _=>exact absurd (show false=true from hs) Bool.false_ne_true
 | str i =>
  obtain ⟨t,rfl⟩:=rx
  cases y with
  | non=>cases ry; exact PySem.EqNone.ne_str_none (qat I q (by simp))
  | bl j=>cases ry; exact PySem.EqMixed.ne_str_bool (qat I q (by simp))
  | int j=>obtain ⟨t',rfl⟩:=ry; exact PySem.EqMixed.ne_str_int (qat I q (by simp))
  | str j=>obtain ⟨t',rfl⟩:=ry; exact ne_str (qat I q (congrArg not qhN))
  | _=>exact absurd (show false=true from hs) Bool.false_ne_true
 | byt i =>
  obtain ⟨t,rfl⟩:=rx
  cases y with
  | byt j=>obtain ⟨t',rfl⟩:=ry; exact PySem.W.ne_bytes (qat I q (congrArg not qhP))
  | _=>exact absurd (show false=true from hs) Bool.false_ne_true
 | _=>cases y <;> exact absurd (show false=true from hs) Bool.false_ne_true
theorem qep:OpR X (compareOp .Lt) (rI0 fun i j => .bl (decide (i < j))):=opB0 fun _ _ _ _ _ _ _ q=>lt_int q
theorem qlf:OpR X (compareOp .LtE) (rI0 fun i j => .bl (decide (i≤j))):=opB0 fun _ _ _ _ _ _ _ q=>le_int q
theorem qeq:OpR X (compareOp .Gt) (rI0 fun i j => .bl (decide (j < i))):=opB0 fun _ _ _ _ _ _ _ q=>gt_int q
theorem qj5:OpR X (compareOp .GtE) (rI0 fun i j => .bl (decide (j≤i))):=opB0 fun _ _ _ _ _ _ _ q=>ge_int q
theorem qal (b:Expr){op:CmpOp}(h:op ≠ .In:=by decide)(h2:op ≠ .NotIn:=by decide):behindInMarks op b=false:=by
 have e1:(op == CmpOp.In)=false:=by cases op <;> first | rfl | exact absurd rfl h
 have e2:(op == CmpOp.NotIn)=false:=by cases op <;> first | rfl | exact absurd rfl h2
 cases b <;> simp [behindInMarks,e1,e2]
theorem qa4 {op:CmpOp}{r:R2}(ho:OpR X (compareOp op) r)(ha:PE X a ta)(hb:PE X b tb)(hm:behindInMarks op b=false):PE X (.Compare a [op] [b] pos) (tOp r ta tb):=by
 intro pins s σ H Q I h
 exact wpAny_Compare1 (binT ha hb I h fun v u s2 x y H2 I2 rx ry q=>ho pins s2 σ H2 x y v u Q I2 rx ry q) hm
def qkQ (t:TE):TT:=fun σ H Q=>t σ H fun x H'=>∃ k,x = .bl k/\Q k H'
theorem qaq {op:CmpOp}{r:R2}(ho:OpR X (compareOp op) r)(ha:PE X a ta)(hb:PE X b tb)(hm:behindInMarks op b=false):PT X (.Compare a [op] [b] pos) (qkQ (tOp r ta tb)):=by
 intro pins s σ H Q I h
 refine wpAny_isTrue_Compare1 (thn (ha pins s σ H _ I h) fun v s1 ⟨x,H1,I1,r1,q1⟩=>thn (hb pins s1 σ H1 _ I1 q1) fun u s2 ⟨y,H2,I2,r2,q2⟩ =>
  thn (ho pins s2 σ H2 x y v u _ I2 r1 r2 q2) fun c s3 ⟨z,H3,I3,r3,k,e,q3⟩=>?_) hm
 subst e
 cases r3
 exact wpAny_truthy_bool ⟨H3,I3,q3⟩
def qkW (r r':R2)(ta tb tc:TE):TE:=fun σ H Q=>ta σ H fun x H1=>tb σ H1 fun y H2=>r x y H2 fun z H3=>∃ k,z = .bl k /\
 (if k=true then tc σ H3 fun w' H4=>r' y w' H4 Q else Q (.bl false) H3)
theorem qir {op op':CmpOp}{r r':R2}(ho:OpR X (compareOp op) r)(ho':OpR X (compareOp op') r')(ha:PE X a ta)(hb:PE X b tb)(hc:PE X c tc)
  (hm:lastMarks [op,op'] [b,c]=false:=by with_unfolding_all rfl):PT X (.Compare a [op,op'] [b,c] pos) (qkQ (qkW r r' ta tb tc)):=by
 intro pins s σ H Q I h
 refine isTrue_chain (thn (ha pins s σ H _ I h) fun v s1 ⟨x,H1,I1,r1,q1⟩=>test_link (thn (hb pins s1 σ H1 _ I1 q1) fun u s2 ⟨y,H2,I2,r2,q2⟩ =>
  thn (ho pins s2 σ H2 x y v u _ I2 r1 r2 q2) fun d s3 ⟨z,H3,I3,r3,k,e,q3⟩=>?_)) hm
 subst e
 cases r3
 refine wpAny_truthy_bool ?_
 cases k with
 | false =>
  obtain ⟨k',e',q'⟩:=q3
  cases e'
  exact ite_ff ⟨H3,I3,q'⟩
 | true =>
  refine ite_tt (test_last (thn (hc pins s3 σ H3 _ I3 q3) fun w' s4 ⟨z',H4,I4,r4,q4⟩=>thn (ho' pins s4 σ H4 y z' u w' _ I4 r2 r4 q4) fun d' s5 ⟨z2,H5,I5,r5,k2,e2,q5⟩=>?_))
  subst e2
  cases r5
  exact wpAny_truthy_bool ⟨H5,I5,q5⟩
theorem qfL:(sizeLine:Nat) < 2 ^ 63:=by rw [sizeLine_eq]; decide
theorem vals1 {x:V}{us:List Value}(r:Vals [x] us):∃ u,us=[u]/\RelV x u:=by
 cases r with
 | cons r1 r2=>cases r2; exact ⟨_,rfl,r1⟩
theorem vals2 {x y:V}{us:List Value}(r:Vals [x,y] us):∃ u w',us=[u,w']/\RelV x u/\RelV y w':=by
 cases r with
 | cons r1 r2 =>
  cases r2 with
  | cons r3 r4=>cases r4; exact ⟨_,_,rfl,r1,r3⟩
theorem qbU:qbP X (.builtin "abs") (fun xs H Q=>∃ i,xs=[.int i]/\Q (.int (if i < 0 then -i else i)) H):=by
 intro pins s σ H xs us Q I r h
 obtain ⟨i,rfl,q⟩:=h
 obtain ⟨u,rfl,t,rfl⟩:=vals1 r
 exact call_abs_int fun u tk=>⟨.int (if i < 0 then -i else i),H,I.tok _,⟨_,rfl⟩,q⟩
theorem qhW (hc:X.calm=true):qbP X (.builtin "min") (fun xs H Q=>∃ i j,xs=[.int i,.int j]/\Q (.int (if j < i then j else i)) H):=by
 intro pins s σ H xs us Q I r h
 obtain ⟨i,j,rfl,q⟩:=h
 obtain ⟨u,w',rfl,⟨t,rfl⟩,⟨t',rfl⟩⟩:=vals2 r
 refine min_two_ints (I.ok.hd hc) fun h' tk k=>⟨_,H,I.kept k,?_,q⟩
 by_cases hj:j < i
 ·rw [if_pos hj,if_pos hj]; exact ⟨_,rfl⟩
 ·rw [if_neg hj,if_neg hj]; exact ⟨_,rfl⟩
theorem qeI:qbP X (.type "int") (fun xs H Q=>(∃ i,xs=[.int i]/\Q (.int i) H)\/∃ k,xs=[.bl k]/\Q (.int (if k then 1 else 0)) H):=by
 intro pins s σ H xs us Q I r h
 rcases h with ⟨i,rfl,q⟩ | ⟨k,rfl,q⟩
 ·obtain ⟨u,rfl,t,rfl⟩:=vals1 r
  exact call_int_int ⟨.int i,H,I,⟨_,rfl⟩,q⟩
 ·obtain ⟨u,rfl,r1⟩:=vals1 r
  cases r1
  exact call_int_bool ⟨.int (if k then 1 else 0),H,I.tok _,⟨_,rfl⟩,q⟩
end
structure ObjM (h:Heap)(x dx C:Addr)(mA:Str->Option Value):Prop where
 obj:h.get? x=some (PySem.W.instObj C dx)
 ns:h.Ns1 dx mA
 ne:dx≠x
theorem qhk {h:Heap}{dx:Addr}{mA:Str->Option Value}(n:h.Ns1 dx mA):∃ od,h.get? dx=some od/\∀ name,PySem.W.lookIn name od=some (mA name):=by
 obtain ⟨o,es,ep,ho,hd,hk,_,hm⟩:=n
 refine ⟨o,ho,fun name=>?_⟩
 have e:=hm name
 unfold nsFind findBy at e
 rw [<- Array.find?_toList] at e
 unfold PySem.W.lookIn
 rw [hd]
 dsimp only
 split
 ·rename_i y q
  rw [q] at e
  exact congrArg some e
 ·rename_i q
  rw [q] at e
  have a:es.toList.any (·.refKey)=false:=by
   rw [List.any_eq_false]
   intro y hy
   obtain ⟨z,t,hkey⟩:=hk y (Array.mem_toList_iff.mp hy)
   simp [DictEntry.refKey,hkey]
  have a':¬ es.toList.any (·.refKey)=true:=by rw [a]; exact Bool.false_ne_true
  rw [if_neg a']
  exact congrArg some e
theorem ObjM.look {h:Heap}{x dx C:Addr}{mA:Str->Option Value}(I:ObjM h x dx C mA):∃ od,PySem.W.InstAt h x (PySem.W.instObj C dx) C (some od)/\∀ name,PySem.W.lookIn name od=some (mA name) :=
 let ⟨od,ho,hl⟩:=qhk I.ns
 ⟨od,⟨I.obj,rfl,rfl,ho⟩,hl⟩
theorem RelO.some_of {v:V}{o:Option Value}(r:RelO (some v) o):∃ u,o=some u/\RelV v u:=by
 cases o with
 | none=>exact (show False from r).elim
 | some u=>exact ⟨u,rfl,r⟩
section
variable {P:Program}{w:World}{H H':Hp}{h h':Heap}{a C dx:Addr}{fs fs':List (Str × V)}
theorem qkn (hok:HOk P w H h)(e:H a=some (.ins C dx fs)):∃ mA,ObjM h a dx C mA/\(∀ f,RelO (fs.lookup f) (mA f))/\PySem.Within mA (fs.map (·.1))/\fs.length≤1000/\H dx=some (.own a):=by
 obtain ⟨d,z,ne,ob,mA,n,r,q⟩:=(show qaV P w H h a (.ins C dx fs) from hok a _ e)
 exact ⟨mA,⟨ob,n,ne⟩,r,q,z,d⟩
end
structure Cls (K:PySem.W.Frag)(C:Addr):Prop where
 pg:PySem.W.plainGet K C Str.empty=true
 hd:PySem.W.hasDictIn K C=true
 po:PySem.W.plainOver K C=true
 sa:PySem.W.findIn K (.ref C) "__setattr__" = some (some (.builtin "object.__setattr__"))
theorem Cls.get {K:PySem.W.Frag}{C:Addr}(c:Cls K C)(f:Str):PySem.W.plainGet K C f=true:=c.pg
section
variable {X:Cx}{pins:List (Addr × Obj)}{σ:St}{H:Hp}{s:Shared}{A:Around}{E:Value->Shared->Prop}{Q:Value->Shared->Prop}{c:Value}{b:Bool}
inductive TyOf (K:PySem.W.Frag) (H:Hp):V->Value->Prop where
 | non:TyOf K H .non (.type "NoneType")
 | bl (x:Bool):TyOf K H (.bl x) (.type "bool")
 | int (i:Int):TyOf K H (.int i) (.type "int")
 | str (x:Str):TyOf K H (.str x) (.type "str")
 | flt (x:UInt64):TyOf K H (.flt x) (.type "float")
 | lst {a:Addr} {xs:List V} (e:H a=some (.lst xs)):TyOf K H (.ref a) (.type "list")
 | frz {a:Addr} {o:Obj} {xs:List V} (e:H a=some (.frz o (.lst xs))):TyOf K H (.ref a) (.type "list")
 | tup {a:Addr} {xs:List V} (e:H a=some (.tup xs)):TyOf K H (.ref a) (.type "tuple")
 | dK {a:Addr} {kvs:List (Key × V)} (e:H a=some (.dK kvs)):TyOf K H (.ref a) (.type "dict")
 | dT {a:Addr} {kvs:List (List Key × V)} (e:H a=some (.dT kvs)):TyOf K H (.ref a) (.type "dict")
 | ins {a C dx:Addr} {fs:List (Str × V)} (e:H a=some (.ins C dx fs)) (cl:Cls K C) (ha:PySem.W.findIn K (.ref C) "__class__" = some (some (.builtin "object.__class__")))
   (hn:PySem.W.specialIn K (.builtin "object.__class__") "__get__" = some (some (.builtin "getset_descriptor.__get__"))) (htk:PySem.W.takesIn K (.builtin "object.__class__")=some true)
   (hm:PySem.W.mroIn K C (.type "object")=some true):TyOf K H (.ref a) (.ref C)
theorem qhw {x:V}{u t:Value}(I:Inv X pins σ H s)(rx:RelV x u)(ty:TyOf X.K H x t)(e:PySem.W.kitOne X.K t c=some b)(h:∀ tk,Q (.bool b) { s with toks:=tk }) :
  wpAny (model X.prog X.w) A (call (.builtin "isinstance") [u,c]) Q E s:=by
 cases ty with
 | non=>cases (show u=Value.none from rx); exact PySem.W.kia_one PySem.W.kitx_none I.kIn True.intro e (fun z=>nomatch z) h
 | bl y=>cases (show u=Value.bool y from rx); exact PySem.W.kia_one PySem.W.kitx_bool I.kIn True.intro e (fun z=>nomatch z) h
 | int i=>obtain ⟨t,q⟩:=(show ∃ t,u=Value.int i t from rx); cases q; exact PySem.W.kia_one PySem.W.kitx_int I.kIn True.intro e (fun z=>nomatch z) h
 | str y=>obtain ⟨t,q⟩:=(show ∃ t,u=Value.str y t from rx); cases q; exact PySem.W.kia_one PySem.W.kitx_str I.kIn True.intro e (fun z=>nomatch z) h
 | flt y=>obtain ⟨t,q⟩:=(show ∃ t,u=Value.float y t from rx); cases q; exact PySem.W.kia_one PySem.W.kitx_float I.kIn True.intro e (fun z=>nomatch z) h
 | @lst a xs ea =>
  cases (show u=Value.ref a from rx)
  obtain ⟨_,_,n,_,h1⟩:=(show qaV X.prog X.w H s.heap a (.lst xs) from I.hok a _ ea)
  exact PySem.W.kia_one PySem.W.kitx_list I.kIn ⟨_,h1,rfl⟩ e (fun z=>nomatch z) h
 | @frz a ob xs ea =>
  cases (show u=Value.ref a from rx)
  obtain ⟨_,_,_,n,_,h1⟩:=(show qaV X.prog X.w H s.heap a (.frz ob (.lst xs)) from I.hok a _ ea)
  exact PySem.W.kia_one PySem.W.kitx_list I.kIn ⟨_,h1,rfl⟩ e (fun z=>nomatch z) h
 | @tup a xs ea =>
  cases (show u=Value.ref a from rx)
  obtain ⟨_,_,_,p⟩:=(show qaV X.prog X.w H s.heap a (.tup xs) from I.hok a _ ea)
  obtain ⟨o,h1,h2,_⟩:=p
  exact PySem.W.kia_one PySem.W.kitx_tuple I.kIn ⟨o,h1,h2⟩ e (fun z=>nomatch z) h
 | @dK a kvs ea =>
  cases (show u=Value.ref a from rx)
  obtain ⟨_,_,vs,_,p⟩:=(show qaV X.prog X.w H s.heap a (.dK kvs) from I.hok a _ ea)
  obtain ⟨o,es,ep,h1,h2,_⟩:=p
  exact PySem.W.kia_one PySem.W.kitx_dict I.kIn ⟨o,h1,h2.1⟩ e (fun z=>nomatch z) h
 | @dT a kvs ea =>
  cases (show u=Value.ref a from rx)
  obtain ⟨_,_,xs,_,o,es,ep,h1,h2,_⟩:=(show qaV X.prog X.w H s.heap a (.dT kvs) from I.hok a _ ea)
  exact PySem.W.kia_one PySem.W.kitx_dict I.kIn ⟨o,h1,h2.1⟩ e (fun z=>nomatch z) h
 | @ins a C dx fs ea cl ha hn htk hm =>
  cases (show u=Value.ref a from rx)
  obtain ⟨mA,O,_⟩:=qkn I.hok ea
  obtain ⟨od,J,_⟩:=O.look
  exact PySem.W.kia_one (PySem.W.kitx_own (cl.get _) cl.hd ha hn htk hm) I.kIn J e (fun z=>nomatch z) h
end
structure Room (k:Nat)(A:Around):Prop where
 hd:A.handled=none
 dp:A.depth + 3 * k + 5 < recursionLimit
 un:A.units + 16 * k + 200 < cLine
 gd:A.guards=some []
theorem Room.mono {j k:Nat}{A:Around}(r:Room k A)(h:j≤k):Room j A:=⟨r.hd,by have:=r.dp; omega,by have:=r.un; omega,r.gd⟩
theorem Room.deeper {k:Nat}{A:Around}(r:Room (k + 1) A)(env:Env):Room k (A.deeper env) :=
 ⟨r.hd,by have:=r.dp; show A.depth + 1 + 3 * k + 5 < _; omega,by have:=r.un; show A.units + 3 + 16 * k + 200 < _; omega,r.gd⟩
theorem Room.depth {k:Nat}{A:Around}(r:Room k A):A.depth < recursionLimit:=by have:=r.dp; omega
theorem Room.units {k:Nat}{A:Around}(r:Room k A):A.units + 64 < cLine:=by have:=r.un; omega
theorem Room.units0 {k:Nat}{A:Around}(r:Room k A):A.units < cLine:=by have:=r.un; omega
def tNil:TA:=fun _ H Q=>Q [] H
def qkV (ta:TE)(tr:TA):TA:=fun σ H Q=>ta σ H fun x H1=>tr σ H1 fun xs H2=>Q (x :: xs) H2
section
variable {X:Cx}{e:Expr}{es:List Expr}{te:TE}{t:TA}{pos:Pos}
theorem pN:PA X [] tNil:=fun _ _ _ _ H Q I h=>Calls.spliced_nil ⟨[],H,I,.nil,h⟩
theorem qj0 (ha:PE X e te)(hr:PA X es t)(hs:starEach (e :: es) X.env=(false,eval e X.env) :: starEach es X.env:=by rfl):PA X (e :: es) (qkV te t):=by
 intro pos pins s σ H Q I h
 rw [hs]
 show wpAny _ _ (spliced ((false,eval e X.env) :: backTo pos (starEach es X.env))) _ _ s
 refine Calls.spliced_cons (thn (ha pins s σ H _ I h) fun u s1 ⟨x,H1,I1,r1,q1⟩=>?_)
 exact thn (hr pos pins s1 σ H1 _ I1 q1) fun us s2 ⟨xs,H2,I2,r2,q2⟩=>⟨x :: xs,H2,I2,.cons r1 r2,q2⟩
def tTup (t:TA):TE:=fun σ H Q=>t σ H fun xs H1=>xs.length≤sizeLine/\∀ p,H1 p=none->Q (.ref p) (upd H1 p (.tup xs))
def tLst (t:TA):TE:=fun σ H Q=>t σ H fun xs H1=>xs.length≤sizeLine/\∀ p,H1 p=none->Q (.ref p) (upd H1 p (.lst xs))
theorem qar {x1}(h:PA X es t):PE X (.Tuple es x1 pos) (tTup t):=by
 intro pins s σ H Q I hq
 refine wpAny_Tuple_spliced (thn (h pos pins s σ H _ I hq) fun us s1 ⟨xs,H1,I1,r,z,q⟩=>⟨by rw [<- r.length]; exact z,?_⟩)
 have hf:H1 s1.heap.objs.size=none:=I1.hok.fresh (Nat.le_refl _)
 refine ⟨.ref s1.heap.objs.size,upd H1 s1.heap.objs.size (.tup xs),I1.laid (t':=s1.toks) (fun b u e=>Heap.get?_push_of_some _ e) (Nat.le_refl _) ?_,rfl,q _ hf⟩
 exact ⟨z,us,r,⟨_,Heap.get?_push_size _ rfl,rfl,_,rfl,rfl⟩⟩
theorem qaN (h:PA X es t):PE X (.List es pos) (tLst t):=by
 intro pins s σ H Q I hq
 refine wpAny_List_spliced (thn (h pos pins s σ H _ I hq) fun us s1 ⟨xs,H1,I1,r,z,q⟩=>⟨by rw [<- r.length]; exact z,?_⟩)
 have hf:H1 s1.heap.objs.size=none:=I1.hok.fresh (Nat.le_refl _)
 refine ⟨.ref s1.heap.objs.size,upd H1 s1.heap.objs.size (.lst xs),I1.laid (t':=s1.toks) (fun b u e=>Heap.get?_push_of_some _ e) (Nat.le_refl _) ?_,rfl,q _ hf⟩
 exact ⟨z,us,0,r,Heap.get?_push_size _ rfl⟩
end
abbrev Sp:=List V->Hp->VK->XK->Prop
abbrev CXT:=List Env->Hp->Shared->XK->Value->Shared->Prop
structure Env0 (P:Program)(w:World)(K:PySem.W.Frag)(mg:Str->Option Value)(base:Heap)(A:Around)(outer:List Env)(s:Shared)(H:Hp):Prop where
 frames:A.frames=some outer
 mod:Mod K mg base
 bs:∀ b o,base.get? b=some o->s.heap.get? b=some o/\H b=none
 bsz:base.objs.size≤s.heap.objs.size
 funs:s.heap.FunFrames base outer
 frf:∀ b∈frs outer,H b=none
 hok:HOk P w H s.heap
 bare:AllBare s.gens
def CE (outer:List Env)(P:Program)(w:World)(H:Hp)(s:Shared)(Q:VK)(u:Value)(s':Shared):Prop :=
 ∃ v H',s'.os=s.os/\AllBare s'.gens/\Un (frs outer) [] H H' s.heap s'.heap/\HOk P w H' s'.heap/\RelV v u/\Q v H'
def CR (CX:CXT)(outer:List Env)(P:Program)(w:World)(H:Hp)(s:Shared)(Q:VK)(E:XK)(r:Result)(s':Shared):Prop :=
 match r with
 | .ok (.ret u)=>CE outer P w H s Q u s'
 | .ok _=>False
 | .error e=>CX outer H s E e s'
structure FnOk (P:Program)(w:World)(K:PySem.W.Frag)(mg:Str->Option Value)(base:Heap)(CX:CXT)(k:Nat)(f:Addr)(fd:FuncData)(ps:List Str)(sp:Sp):Prop where
 len:∀ vs H Q E,sp vs H Q E->vs.length=ps.length
 run:∀ (A:Around) (outer:List Env) (s:Shared) (H:Hp) (args:Args) (us:List Value) (vs:List V) (Q:VK) (E:XK),Room k A->Env0 P w K mg base A outer s H->BindsTo s fd args (ps.zip us)->Vals vs us->sp vs H Q E ->
  codeAny (model P w) A (.call (.ref f) args) (CR CX outer P w H s Q E) s
section
variable {X:Cx}{pins:List (Addr × Obj)}{σ:St}{H:Hp}{s s':Shared}
theorem Inv.env0 (I:Inv X pins σ H s):Env0 X.prog X.w X.K X.mg X.base X.A X.stack s H :=
 ⟨I.ok.frames,I.ok.mod,I.bs,Nat.le_trans I.ok.bsz I.sz,I.stack,I.stkFree,I.hok,I.bare⟩
theorem Inv.after {Q:VK}{u:Value}(I:Inv X pins σ H s)(h:CE X.stack X.prog X.w H s Q u s'):EP X pins σ Q u s':=by
 obtain ⟨v,H',os,bare,un,hok,r,q⟩:=h
 obtain ⟨hh,g,d,t,os'⟩:=s'
 obtain rfl:os'=s.os:=os
 exact ⟨v,H',I.call (h':=hh) (g':=g) (d':=d) (t':=t) (ch:=[]) un hok bare (fun b z=>absurd z (by simp)),r,q⟩
end
def qkX (sp:Sp)(dvs:List V)(E:XK)(t:TA):TE:=fun σ H Q=>t σ H fun vs H1=>sp (vs ++ dvs) H1 Q E
def Binds (K:PySem.W.Frag)(fd:FuncData)(ps:List Str)(ds:List Value):Prop :=
 ∀ (s:Shared) (us:List Value),K.In s.heap->(us ++ ds).length=ps.length->BindsTo s fd ⟨us,[]⟩ (ps.zip (us ++ ds))
theorem Binds.all {K:PySem.W.Frag}{fd:FuncData}{ps:List Str}(h:∀ us:List Value,us.length=ps.length->bindArgs fd ⟨us,[]⟩=pure (ps.zip us)):Binds K fd ps []:=fun s us _ hl=>by
 rw [List.append_nil] at hl ⊢
 exact .of_eq (h us hl)
def qh4 (CX:CXT)(X:Cx)(E:XK):Prop:=∀ (pins:List (Addr × Obj)) (σ:St) (H:Hp) (s:Shared) (e:Value) (s':Shared),Inv X pins σ H s->CX X.stack H s E e s'->X.xe e s'
section
variable {X:Cx}{CX:CXT}{k:Nat}{f C:Addr}{fd:FuncData}{ps:List Str}{sp:Sp}{dvs:List V}{ds:List Value}{E:XK}{x m:Str}{p pos apos:Pos}{e o:Expr}{es:List Expr}{ta:TE}{t:TA}
theorem qk5 {pins:List (Addr × Obj)}{σ:St}{H:Hp}{s:Shared}{Q:VK}{us:List Value}{vs:List V}(F:FnOk X.prog X.w X.K X.mg X.base CX k f fd ps sp)(hr:Room k X.A)(hb:Binds X.K fd ps ds)(hd:Vals dvs ds)(hx:qh4 CX X E)
  (I:Inv X pins σ H s) (r:Vals vs us) (h:sp (vs ++ dvs) H Q E):wpAny (model X.prog X.w) X.A (call (.ref f) us) (EP X pins σ Q) X.xe s:=by
 have r2:Vals (vs ++ dvs) (us ++ ds):=r.append hd
 have hl:(us ++ ds).length=ps.length:=by rw [<- r2.length]; exact F.len _ _ _ _ h
 refine wpAny_call (codeAny_mono (F.run X.A X.stack s H ⟨us,[]⟩ (us ++ ds) (vs ++ dvs) Q E hr I.env0 (hb s us I.kIn hl) r2 h) fun r s' hq=>?_)
 cases r with
 | error e=>exact hx pins σ H s e s' I hq
 | ok fl =>
  cases fl with
  | ret u=>exact I.after hq
  | next=>exact False.elim hq
  | brk=>exact False.elim hq
  | cont=>exact False.elim hq
theorem qjZ (F:FnOk X.prog X.w X.K X.mg X.base CX k f fd ps sp)(hr:Room k X.A)(hg:Gl X x)(hm:X.mg x=some (.ref f))(hk:PySem.W.keepIn X.K (.ref f)=true)(hb:Binds X.K fd ps ds)(hd:Vals dvs ds)(hx:qh4 CX X E)
  (ha:PA X (e :: es) t) (hdb:(x == ("__debug__" : Str))=false:=by decide) (he:starEach (e :: es) X.env=(false,eval e X.env) :: starEach es X.env:=by rfl) (hpl:(backTo pos (starEach es X.env)).any (·.1)=false:=by rfl) :
  PE X (.Call (.Name x p) (e :: es) [] pos) (qkX sp dvs E t):=by
 intro pins s σ H Q I h
 refine wpAny_Call_Name_kw (qhn I hg hm ?_ hdb)
 refine PySem.W.callWith_K (h₀:=X.base) I.ok.mod.kin hk (thn (ha pos pins s σ H _ I h) fun us s1 ⟨vs,H1,I1,r,q⟩=>⟨I1.kIn,?_⟩) he hpl
 exact qk5 F hr hb hd hx I1 r q
end
structure qao (N P:List Str)(sc:Scope):Prop where
 kind:sc.kind = .function
 co:sc.isCoroutine=false
 gen:sc.isGenerator=false
 nd:N.Nodup
 pre:N.take P.length=P
 par:∀ x∈P,sc.names.lookup x=some .local\/sc.names.lookup x=some .cell
 nofree:∀ y∈sc.names,y.2 ≠ .free
theorem qeM {kindOf:Str->Option NameKind}{x:Str}:∀ {binds:List (Str × Value)} {m:Str->Option Value},(∀ v,(x,v) ∉ binds)->bindL kindOf binds m x=m x
 | [],_,_=>rfl
 | (n,v) :: r,m,h=>by
  unfold bindL
  rw [qeM fun w hw=>h w (List.mem_cons_of_mem _ hw)]
  split
  ·have:x≠n:=by rintro rfl; exact h v List.mem_cons_self
   simp [this]
  ·rfl
theorem qeO {kindOf:Str->Option NameKind}{x:Str}:∀ {binds:List (Str × Value)} {m:Str->Option Value},(∀ v,(x,v) ∉ binds)->bindC kindOf binds m x=m x
 | [],_,_=>rfl
 | (n,v) :: r,m,h=>by
  unfold bindC
  rw [qeO fun w hw=>h w (List.mem_cons_of_mem _ hw)]
  split
  ·rfl
  ·have:x≠n:=by rintro rfl; exact h v List.mem_cons_self
   simp [this]
theorem qeN {kindOf:Str->Option NameKind}{x:Str}{v:Value}:∀ {P:List Str} {vs:List Value} {i:Nat} {m:Str->Option Value},P.Nodup->P[i]?=some x->vs[i]?=some v->kindOf x=some .local ->
  bindL kindOf (P.zip vs) m x=some v
 | [],_,_,_,_,h,_,_=>by simp at h
 | _ :: _,[],_,_,_,_,h,_=>by simp at h
 | p :: P,w :: vs,0,m,nd,h1,h2,hk=>by
  simp at h1 h2; subst h1; subst h2
  show bindL kindOf ((p,w) :: P.zip vs) m p=_
  unfold bindL
  rw [qeM fun v hv=>(List.nodup_cons.mp nd).1 (List.of_mem_zip hv).1,if_pos hk]
  simp
 | p :: P,w :: vs,i + 1,m,nd,h1,h2,hk=>by
  show bindL kindOf ((p,w) :: P.zip vs) m x=_
  unfold bindL
  exact qeN (i:=i) (List.nodup_cons.mp nd).2 (by simpa using h1) (by simpa using h2) hk
theorem qeP {kindOf:Str->Option NameKind}{x:Str}{v:Value}:∀ {P:List Str} {vs:List Value} {i:Nat} {m:Str->Option Value},P.Nodup->P[i]?=some x->vs[i]?=some v->kindOf x≠some .local ->
  bindC kindOf (P.zip vs) m x=some v
 | [],_,_,_,_,h,_,_=>by simp at h
 | _ :: _,[],_,_,_,_,h,_=>by simp at h
 | p :: P,w :: vs,0,m,nd,h1,h2,hk=>by
  simp at h1 h2; subst h1; subst h2
  show bindC kindOf ((p,w) :: P.zip vs) m p=_
  unfold bindC
  rw [qeO fun v hv=>(List.nodup_cons.mp nd).1 (List.of_mem_zip hv).1,if_neg hk]
  simp
 | p :: P,w :: vs,i + 1,m,nd,h1,h2,hk=>by
  show bindC kindOf ((p,w) :: P.zip vs) m x=_
  unfold bindC
  exact qeP (i:=i) (List.nodup_cons.mp nd).2 (by simpa using h1) (by simpa using h2) hk
def start (N:List Str)(vs:List V):St:=vs.map some ++ List.replicate (N.length - vs.length) none
def cxOf (CX:CXT)(P:Program)(w:World)(K:PySem.W.Frag)(mg:Str->Option Value)(base:Heap)(N:List Str)(qual:Str)(scope:Scope)(f:Addr)(cd:Value)(A:Around)(outer:List Env)(s:Shared)(H:Hp)(E:XK):Cx where
 prog:=P
 w:=w
 K:=K
 mg:=mg
 base:=base
 A:=A.deeper (envOfC qual scope s.heap.objs.size f cd)
 N:=N
 s₀:=s
 H₀:=H
 env:=envOfC qual scope s.heap.objs.size f cd
 outer:=outer
 stack:=envOfC qual scope s.heap.objs.size f cd :: outer
 ex:=[]
 calm:=true
 fn:=fun _=>true
 pn:=[]
 xe:=fun e s'=>wpAny (model P w) (A.deeper (envOfC qual scope s.heap.objs.size f cd)) (leaving (envOfC qual scope s.heap.objs.size f cd) e) (fun _ s''=>CX outer H s E e s'') (fun e' s''=>CX outer H s E e' s'') s'
theorem qfV {sc:Scope}{n:Nat}{x:Str}(h:sc.names.lookup x=some .cell):∃ c,(cellsFrom n sc.names []).lookup x=some c:=by
 have q:=PySem.W.cellsFrom_some sc.names n [] (.inl h)
 exact Option.isSome_iff_exists.mp q
theorem qhx {CX:CXT}{P:Program}{w:World}{K:PySem.W.Frag}{mg:Str->Option Value}{base:Heap}{N ps:List Str}{qual:Str}{scope:Scope}{f:Addr}{cd:Value}{A:Around}{outer:List Env}{s s1:Shared}{H:Hp}{E:XK}{us:List Value}{vs:List V}
  (S:qao N ps scope) (hd:A.handled=none) (e0:Env0 P w K mg base A outer s H) (hl:vs.length=ps.length) (r:Vals vs us)
  (x:InCallC s s.heap.objs.size (bindL (envOfC qual scope s.heap.objs.size f cd).kindOf (ps.zip us) fun _=>none) (cellsFrom (s.heap.objs.size + 1) scope.names []) (bindC (envOfC qual scope s.heap.objs.size f cd).kindOf (ps.zip us) fun _=>none) s1) :
  Inv (cxOf CX P w K mg base N qual scope f cd A outer s H E) [] (start N vs) H s1:=by
 have hpl:ps.length≤N.length:=by have:=congrArg List.length S.pre; rw [List.length_take] at this; omega
 obtain ⟨h1,tk,rfl,hk⟩:=x.done
 have noA:∀ b:Addr,b ∉ (cxOf CX P w K mg base N qual scope f cd A outer s H E).ex:=fun b z=>absurd (show b∈([]:List Addr) from z) (by simp)
 refine ⟨⟨e0.mod,S.kind,rfl,rfl,Nat.le_refl _,fun y z c h1 h2=>?_,fun y hy=>?_,fun y c _ h=>?_,fun _=>hd,Around.frames_deeper e0.frames,.inr ⟨rfl,rfl⟩,fun b z=>absurd z (noA b),e0.bs,e0.bsz,fun b _ _=>noA b,fun b z=>absurd z (noA b),e0.funs,e0.frf⟩,
  rfl,e0.bare,Un.kept hk,⟨_,x.toInCall.ns,fun i y v h1 h2 h3=>?_⟩,fun y c h=>⟨_,x.cell y c h⟩,e0.hok.fresh (Nat.le_refl _),fun y c h=>?_,fun p hp=>absurd (show p∈([]:List (Addr × Obj)) from hp) (by simp),e0.hok.kept hk,?_⟩
 ·exact name_of_addr x.apart (PySem.mem_of_lookup h1) (PySem.mem_of_lookup h2)
 ·have hy:scope.names.lookup y=some .cell\/scope.names.lookup y=some .free:=hy
  rcases hy with hy | hy
  ·exact qfV hy
  ·exact absurd rfl (S.nofree _ (PySem.mem_of_lookup hy))
 ·exact Nat.le_of_lt (x.above y c (PySem.mem_of_lookup h))
 ·have hi:i < vs.length:=by
   unfold start at h2
   by_cases hi:i < vs.length
   ·exact hi
   ·rw [List.getElem?_append_right (by simpa using hi)] at h2
    rw [List.getElem?_replicate] at h2
    split at h2 <;> cases h2
  have ha:vs[i]?=some v:=by
   unfold start at h2
   rw [List.getElem?_append_left (by simpa using hi),List.getElem?_map] at h2
   cases e:vs[i]? with
   | none=>rw [e] at h2; cases h2
   | some a=>rw [e] at h2; cases h2; rfl
  obtain ⟨u,hu,rv⟩:=r.get ha
  have hp:ps[i]?=some y:=by
   rw [<- S.pre,List.getElem?_take_of_lt (by omega)]; exact h1
  have ndP:ps.Nodup:=by rw [<- S.pre]; exact S.nd.sublist (List.take_sublist _ _)
  refine ⟨u,rv,?_⟩
  rcases S.par y (List.mem_of_getElem? hp) with k | k
  ·exact .inl ⟨k,qeN ndP hp hu k⟩
  ·obtain ⟨c,e⟩:=qfV (n:=s.heap.objs.size + 1) k
   refine .inr ⟨.inl k,c,e,?_⟩
   have q:=x.cell y c e
   rw [qeP ndP hp hu (by show scope.names.lookup y≠_; rw [k]; decide)] at q
   exact q
 ·exact e0.hok.fresh (Nat.le_of_lt (x.above y c (PySem.mem_of_lookup h)))
 ·unfold start
  show _=N.length
  rw [List.length_append,List.length_map,List.length_replicate]
  omega
theorem fn_of {CX:CXT}{P:Program}{w:World}{K:PySem.W.Frag}{mg:Str->Option Value}{base:Heap}{k:Nat}{f:Addr}{name qual:Str}{params:Arguments}{body:List Stmt}{scope:Scope}{dV kV doc pm cdv ct oc:Value}{an od:Option Addr}
  {osl:Array (Option Value)} {N ps:List Str} {sp:Sp} (lk:K.lookup f=some ⟨oc,od,.func (PySem.W.fnOf name qual params body scope dV kV doc pm an cdv ct),osl⟩) (hcd:PySem.W.codeIn K cdv qual=true) (S:qao N ps scope)
  (len:∀ vs H Q E,sp vs H Q E->vs.length=ps.length)
  (hbody:∀ (A:Around) (outer:List Env) (s:Shared) (H:Hp) (vs:List V) (Q:VK) (E:XK),Room k (A.deeper (envOfC qual scope s.heap.objs.size f cdv))->sp vs H Q E ->
    ∃ t,PSs (cxOf CX P w K mg base N qual scope f cdv A outer s H E) body t/\t { nx:=fun _ H'=>Q .non H',rt:=Q } (start N vs) H) :
  FnOk P w K mg base CX (k + 1) f (PySem.W.fnOf name qual params body scope dV kV doc pm an cdv ct) ps sp:=by
 refine ⟨len,fun A outer s H args us vs Q E hr e0 hb r hsp=>?_⟩
 have hl:=len _ _ _ _ hsp
 have KX:K.In s.heap:=e0.mod.kin.keeps fun b o e=>(e0.bs b o e).1
 have lim:s.heap.NoLimit:=e0.mod.nolimit.keeps fun b o e=>(e0.bs b o e).1
 have hkind:∀ y∈ps.zip us,scope.names.lookup y.1=some .local\/(scope.names.lookup y.1=some .cell/\((cellsFrom (s.heap.objs.size + 1) scope.names []).lookup y.1).isSome=true):=fun ⟨n,v⟩ hy=>by
  rcases S.par n (List.of_mem_zip hy).1 with q | q
  ·exact .inl q
  ·exact .inr ⟨q,PySem.W.cellsFrom_some _ _ _ (.inl q)⟩
 refine codeAny_call_function hr.depth (KX _ _ lk) rfl S.co S.gen rfl (PySem.W.codeRec_of KX hcd) (hb _ _ _ _ ?_)
 refine wpAny_newFunctionEnv_cells S.kind hkind fun env he s1 x=>?_
 subst he
 refine ⟨lim.keeps x.toInCall.keep,codeAny_func ?_⟩
 obtain ⟨t,ht,hq⟩:=hbody A outer s H vs Q E (hr.deeper _) hsp
 have I:Inv (cxOf CX P w K mg base N qual scope f cdv A outer s H E) [] (start N vs) H s1:=qhx S hr.hd e0 hl r x
 refine wpAny_mono (ht [] s1 (start N vs) H _ I hq) (fun fl s' hs=>?_) fun e s' hs=>hs
 have fin:∀ {σ':St} {H':Hp} {v:V} {u:Value},Inv (cxOf CX P w K mg base N qual scope f cdv A outer s H E) [] σ' H' s'->RelV v u->Q v H'->CE outer P w H s Q u s' :=
  fun {σ' H' v u} J rv q=>⟨v,H',J.os,J.bare,J.base,J.hok,rv,q⟩
 cases fl with
 | ret u =>
  obtain ⟨v,σ',H',J,rv,q⟩:=hs
  exact fin J rv q
 | next =>
  obtain ⟨σ',H',J,q⟩:=hs
  exact fin (v:=V.non) (u:=Value.none) J rfl q
 | brk =>
  obtain ⟨_,_,_,q⟩:=hs
  exact False.elim q
 | cont =>
  obtain ⟨_,_,_,q⟩:=hs
  exact False.elim q
section
variable {X:Cx}{x:Str}{p pos:Pos}{e:Expr}{es:List Expr}{t:TA}{id T:String}{r:List V->Hp->VK->Prop}
def tCB (r:List V->Hp->VK->Prop)(t:TA):TE:=fun σ H Q=>t σ H fun vs H1=>r vs H1 Q
theorem qab (hc:qbP X (.builtin id) r)(hg:Gl X x)(hm:X.mg x=none)(hv:bootBuiltins x=some (.builtin id))(ha:PA X (e :: es) t)(hn:x ≠ "__name__" := by decide)(hdb:(x == ("__debug__" : Str))=false:=by decide)
  (he:starEach (e :: es) X.env=(false,eval e X.env) :: starEach es X.env:=by rfl) (hpl:(backTo pos (starEach es X.env)).any (·.1)=false:=by rfl):PE X (.Call (.Name x p) (e :: es) [] pos) (tCB r t):=by
 intro pins s σ H Q I h
 refine wpAny_Call_Name_kw (qcJ I hg hm hv ?_ hn hdb)
 exact PyProof.Rows.callWith_builtin1 (thn (ha pos pins s σ H _ I h) fun us s1 ⟨vs,H1,I1,r1,q1⟩=>hc pins s1 σ H1 vs us Q I1 r1 q1) he hpl
theorem qbk (hc:qbP X (.type T) r)(hg:Gl X x)(hm:X.mg x=none)(hv:bootBuiltins x=some (.type T))(ha:PA X (e :: es) t)(hn:x ≠ "__name__" := by decide)(hdb:(x == ("__debug__" : Str))=false:=by decide)
  (he:starEach (e :: es) X.env=(false,eval e X.env) :: starEach es X.env:=by rfl) (hpl:(backTo pos (starEach es X.env)).any (·.1)=false:=by rfl):PE X (.Call (.Name x p) (e :: es) [] pos) (tCB r t):=by
 intro pins s σ H Q I h
 refine wpAny_Call_Name_kw (qcJ I hg hm hv ?_ hn hdb)
 exact PyProof.Rows.callWith_type1 (thn (ha pos pins s σ H _ I h) fun us s1 ⟨vs,H1,I1,r1,q1⟩=>hc pins s1 σ H1 vs us Q I1 r1 q1) he hpl
end
end L2
namespace HT
open PySem PyProof.Rows
section
variable {prog:Program}{w:World}{A:Around}{E:Value->Shared->Prop}{s:Shared}
theorem cat_tup {t b:Addr}{vs ws:List Value}{Q:Value->Shared->Prop}(ht:IsTup s.heap t vs.toArray)(hb:IsTup s.heap b ws.toArray)(hv:vs≠[])
  (h1:ws=[]->Q (.ref t) s) (h2:ws≠[]->Q (.ref s.heap.objs.size) { s with heap:=s.heap.push { cls := .type "tuple",data := .seq (vs ++ ws).toArray } })
  (hsz:vs.length + ws.length≤sizeLine):wpAny (model prog w) A (binaryOp .Add (.ref t) (.ref b)) Q E s:=by
 obtain ⟨⟨cls,dd,data,sl⟩,ho,hc,n,hd⟩:=id ht
 obtain ⟨⟨cls2,dd2,data2,sl2⟩,ho2,hc2,n2,hd2⟩:=id hb
 simp only at hc hd hc2 hd2
 subst hc hd hc2 hd2
 have e:vs.toArray ++ ws.toArray=(vs ++ ws).toArray:=by simp
 by_cases hw:ws=[]
 ·exact concat_meets ⟨_,ho,rfl⟩ ⟨_,ho2,rfl⟩ noFill_tuple_add seq_tuple_add PySem.F.slot_tuple_add PySem.F.entry_tuple_add (PySem.F.args_tuple_add_2 _ _)
   (tuple_addW1 t b vs.toArray ws.toArray n n2 dd dd2 sl sl2 (by simpa using hv) (by simp [hw])) ⟨ho,ho2,h1 hw⟩
 ·refine concat_meets ⟨_,ho,rfl⟩ ⟨_,ho2,rfl⟩ noFill_tuple_add seq_tuple_add PySem.F.slot_tuple_add PySem.F.entry_tuple_add (PySem.F.args_tuple_add_2 _ _)
   (tuple_addW2 t b vs.toArray ws.toArray n n2 dd dd2 sl sl2 (by simpa using hv) (by simpa using hw) (by rw [List.size_toArray,List.size_toArray]; exact hsz)) ⟨ho,ho2,?_⟩
  rw [e]
  exact h2 hw
def sIx (n d:Nat):Option Int->Nat
 | none=>d
 | some v=>if v < 0 then (v + (n:Int)).toNat else min v.toNat n
theorem sIx_none (n d:Nat):sIx n d none=d:=rfl
theorem sIx_nat (n d k:Nat):sIx n d (some (k:Int))=min k n:=by
 show (if (k:Int) < 0 then ((k:Int) + (n:Int)).toNat else min (k:Int).toNat n)=min k n
 rw [if_neg (by omega),Int.toNat_natCast]
theorem qk4 (n d:Nat)(hd:d≤n)(o:Option Int):sIx n d o≤n:=by
 cases o with
 | none=>exact hd
 | some v =>
  show (if v < 0 then (v + (n:Int)).toNat else min v.toNat n)≤n
  by_cases hv:v < 0
  ·rw [if_pos hv]; omega
  ·rw [if_neg hv]; exact Nat.min_le_right _ _
theorem qhT (v:Int)(n d:Nat):(if v < 0 then max (v + (n:Int)) 0 else min v (n:Int))=((sIx n d (some v):Nat):Int):=by
 show (if v < 0 then max (v + (n:Int)) 0 else min v (n:Int))=(((if v < 0 then (v + (n:Int)).toNat else min v.toNat n):Nat):Int)
 by_cases hv:v < 0
 ·simp only [if_pos hv]; omega
 ·simp only [if_neg hv]; omega
theorem qgp (lo hi:Option Int)(n:Nat):Builtin.Slice.sliceAdjust lo hi 1 (n:Int)=(((sIx n 0 lo:Nat):Int),((sIx n n hi:Nat):Int)):=by
 have h1:¬ ((1:Int) < 0):=by omega
 unfold Builtin.Slice.sliceAdjust
 simp only [h1,if_false]
 refine Prod.ext ?_ ?_
 ·cases lo with
  | none=>rfl
  | some v=>exact qhT v n 0
 ·cases hi with
  | none=>rfl
  | some v=>exact qhT v n n
theorem qf6 (i j:Nat):Builtin.Slice.slicePlaces (i:Int) (j:Int) 1=j - i:=by
 unfold Builtin.Slice.slicePlaces
 have h1:(1:Int) > 0:=by omega
 simp only [h1,if_true,Int.ediv_one]
 split <;> omega
theorem qcp {v:Value}{o:Option Int}{Q:Option Int->Shared->Prop}(p:IsPart v o)(h:Q o s):wpAny (model prog w) A (Builtin.Slice.slicePartIndex v) Q E s:=by
 cases p with
 | none=>exact slicePart_none h
 | int i t=>exact slicePart_int h
theorem qbF {sl:Addr}{vl vu:Value}{lo hi:Option Int}{n:Nat}{Q:Int × Int × Nat->Shared->Prop}(hs:s.heap.IsSliceOf sl vl vu .none)(pl:IsPart vl lo)(pu:IsPart vu hi)
  (h:Q (((sIx n 0 lo:Nat):Int),1,sIx n n hi - sIx n 0 lo) s):wpAny (model prog w) A (Builtin.Slice.sliceApplied (.ref sl) (pure (n:Int))) Q E s:=by
 obtain ⟨os,hos,hcs,hds⟩:=id hs
 unfold Builtin.Slice.sliceApplied Builtin.Slice.sliceFields
 refine wpAny_bind (wpAny_bind (wpAny_field hos hds (x:=vl) rfl (wpAny_bind (wpAny_field hos hds (x:=vu) rfl (wpAny_bind (wpAny_field hos hds (x := .none) rfl (wpAny_pure ?_)))))))
 refine wpAny_bind (slicePart_none ?_)
 show wpAny _ _ (if ((1:Int) == 0)=true then _ else _) _ _ s
 rw [if_neg (by decide)]
 refine wpAny_bind (qcp pl (wpAny_bind (qcp pu (wpAny_bind (wpAny_pure ?_)))))
 show wpAny _ _ (match Builtin.Slice.sliceAdjust lo hi 1 (n:Int) with | (lo,hi)=>pure (lo,(1:Int),Builtin.Slice.slicePlaces lo hi 1)) _ _ s
 rw [qgp lo hi n]
 show wpAny _ _ (pure (((sIx n 0 lo:Nat):Int),(1:Int),Builtin.Slice.slicePlaces ((sIx n 0 lo:Nat):Int) ((sIx n n hi:Nat):Int) 1)) _ _ s
 rw [qf6]
 exact wpAny_pure h
theorem qit (xs:Array Value)(i k:Nat):((List.range k).filterMap fun (m:Nat)=>xs[((i:Int) + (m:Int) * 1).toNat]?).toArray=((xs.toList.drop i).take k).toArray:=by
 have e:(fun (m:Nat)=>xs[((i:Int) + (m:Int) * 1).toNat]?)=fun m=>xs[i + m]?:=by
  funext m
  have:((i:Int) + (m:Int) * 1).toNat=i + m:=by omega
  rw [this]
 rw [e]
 have:=pick_run xs i k
 rw [List.filterMap_map] at this
 have e2:((fun x=>xs[x]?) ∘ fun x=>i + x)=fun m=>xs[i + m]?:=rfl
 rw [e2] at this
 rw [this]
theorem getItem_tuple_cut {t sl:Addr}{items:Array Value}{vl vu:Value}{lo hi:Option Int}{Q:Value->Shared->Prop}(ht:IsTup s.heap t items)(hs:s.heap.IsSliceOf sl vl vu .none)(pl:IsPart vl lo)(pu:IsPart vu hi)
  (hw:¬ (sIx items.size 0 lo=0/\sIx items.size items.size hi=items.size))
  (h:Q (.ref s.heap.objs.size) { s with heap:=s.heap.push { cls := .type "tuple",data := .seq ((items.toList.drop (sIx items.size 0 lo)).take (sIx items.size items.size hi - sIx items.size 0 lo)).toArray } })
  (hsz:items.size≤sizeLine):wpAny (model prog w) A (getItem (.ref t) (.ref sl)) Q E s:=by
 have htake:sizeOk (.seq ((items.toList.drop (sIx items.size 0 lo)).take (sIx items.size items.size hi - sIx items.size 0 lo)).toArray):=by
  show ((items.toList.drop (sIx items.size 0 lo)).take (sIx items.size items.size hi - sIx items.size 0 lo)).toArray.size≤sizeLine
  rw [List.size_toArray,List.length_take,List.length_drop,Array.length_toList]
  omega
 have hj:sIx items.size items.size hi≤items.size:=qk4 _ _ (Nat.le_refl _) hi
 obtain ⟨os,hos,hcs,hds⟩:=id hs
 have hTs:s.TypeIs (.ref sl) "slice" := ⟨os,hos,hcs⟩
 unfold getItem
 try with_reducible refine wpAny_holding ?_
 first | refine wpAny_bind (wpAny_pure ?_) | skip
 refine wpAny_bind (wpAny_sequenceKey ht.typeIs (by decide) ?_)
 refine wpAny_bind (wpAny_callSpecial?_slot (name:=Str.ofString "__getitem__") ht.typeIs PyProof.Rows.slot_tuple_getitem
  (wpAny_call_entry PyProof.Rows.slot_tuple_getitem ht.typeIs entry_tuple_getitem ?_ (args_tuple_getitem _ _)))
 show wpAny _ _ (Builtin.Tuple.tupleItemsOf (.ref t) >>= _) _ _ s
 refine wpAny_bind (tupleItemsOf_ ht ?_)
 refine wpAny_bind (wpAny_typeOf hTs ?_)
 rw [if_pos (by decide)]
 refine wpAny_bind (qbF hs pl pu ?_)
 have hno:¬ ((((sIx items.size 0 lo:Nat):Int) == 0 && (1:Int) == 1 && (sIx items.size items.size hi - sIx items.size 0 lo) == items.size)=true):=by
  intro q
  rw [Bool.and_eq_true,Bool.and_eq_true] at q
  have q1:((sIx items.size 0 lo:Nat):Int)=0:=eq_of_beq q.1.1
  have q2:sIx items.size items.size hi - sIx items.size 0 lo=items.size:=eq_of_beq q.2
  exact hw ⟨by omega,by omega⟩
 show wpAny _ _ (if (((sIx items.size 0 lo:Nat):Int) == 0 && (1:Int) == 1 && (sIx items.size items.size hi - sIx items.size 0 lo) == items.size)=true then _ else _) _ _ s
 rw [if_neg hno,qit]
 first
  | exact wpAny_bind (m:=Builtin.Tuple.tupleExact _) (wpAny_newObj_type (wpAny_pure ⟨_,rfl,wpAny_pure h⟩) htake)
  | exact wpAny_bind (m:=Builtin.Tuple.tupleExact _) (wpAny_newObj_type (wpAny_bind (wpAny_pure (wpAny_pure ⟨_,rfl,wpAny_pure h⟩))) htake)
  | exact wpAny_bind (wpAny_bind (m:=Builtin.Tuple.tupleExact _) (wpAny_newObj_type (wpAny_pure (wpAny_pure ⟨_,rfl,wpAny_pure h⟩)) htake))
  | exact wpAny_bind (wpAny_bind (m:=Builtin.Tuple.tupleExact _) (wpAny_newObj_type (wpAny_pure ⟨_,rfl,wpAny_pure h⟩) htake))
end
end HT
namespace L2
open PySem PySem.Spec PyProof.Rows
abbrev TO:=St->Hp->(Option Int->Hp->Prop)->Prop
def PO (X:Cx)(e:Option Expr)(t:TO):Prop :=
 ∀ (pins:List (Addr × Obj)) (s:Shared) (σ:St) (H:Hp) (Q:Option Int->Hp->Prop),Inv X pins σ H s->t σ H Q ->
  wpAny (model X.prog X.w) X.A (evalPart e X.env) (fun u s'=>∃ o H',Inv X pins σ H' s'/\IsPart u o/\Q o H') X.xe s
def qjy:TO:=fun _ H Q=>Q none H
def qjx (t:TE):TO:=fun σ H Q=>t σ H fun x H1=>∃ i,x = .int i/\Q (some i) H1
theorem intsAre_of {ns:List Int}:∀ {us:List Value},Vals (ns.map V.int) us->IntsAre us ns:=by
 induction ns with
 | nil=>intro us r; rw [List.map_nil] at r; cases r; exact .nil
 | cons n ns ih =>
  intro us r
  rw [List.map_cons] at r
  cases r with
  | cons r1 r2 =>
   obtain ⟨t,e⟩:=r1
   subst e
   exact .cons n t (ih r2)
section
variable {X:Cx}{e:Expr}{te:TE}{lo hi:Option Expr}{tl th:TO}{pos p2:Pos}
theorem qaC:PO X none qjy:=by
 intro pins s σ H Q I h
 rw [evalPart_none]
 exact wpAny_pure ⟨none,H,I,.none,h⟩
theorem qaz (h:PE X e te):PO X (some e) (qjx te):=by
 intro pins s σ H Q I hw
 rw [evalPart_some]
 refine thn (h pins s σ H _ I hw) fun u s1 ⟨x,H1,I1,r1,q1⟩=>?_
 obtain ⟨i,rfl,q⟩:=q1
 obtain ⟨t,rfl⟩:=r1
 exact ⟨some i,H1,I1,.int i t,q⟩
def SlR (X:Cx)(r:V->Option Int->Option Int->Hp->VK->Prop):Prop :=
 ∀ (pins:List (Addr × Obj)) (s:Shared) (σ:St) (H:Hp) (x:V) (v vl vu:Value) (lo hi:Option Int) (sl:Addr) (Q:VK),Inv X pins σ H s->RelV x v->s.heap.IsSliceOf sl vl vu .none->IsPart vl lo->IsPart vu hi->r x lo hi H Q ->
  ∃ T id,typeLookup (.type T) "__getitem__" = pure (some (.builtin id))/\s.TypeIs v T/\wpAny (model X.prog X.w) X.A (getItem v (.ref sl)) (EP X pins σ Q) X.xe s
def tSl (r:V->Option Int->Option Int->Hp->VK->Prop)(te:TE)(tl th:TO):TE:=fun σ H Q=>te σ H fun x H1=>tl σ H1 fun l H2=>th σ H2 fun u H3=>r x l u H3 Q
theorem qas {r:V->Option Int->Option Int->Hp->VK->Prop}(hr:SlR X r)(he:PE X e te)(hl:PO X lo tl)(hu:PO X hi th):PE X (.Subscript e (.Slice lo hi none p2) pos) (tSl r te tl th):=by
 intro pins s σ H Q I h
 refine Subscript_ (thn (he pins s σ H _ I h) fun v s1 ⟨x,H1,I1,r1,q1⟩=>?_)
 refine wpAny_Slice (thn (hl pins s1 σ H1 _ I1 q1) fun vl s2 ⟨l,H2,I2,pl,q2⟩=>thn (hu pins s2 σ H2 _ I2 q2) fun vu s3 ⟨u,H3,I3,pu,q3⟩=>?_)
 rw [evalPart_none]
 refine wpAny_pure ?_
 have I4:Inv X pins σ H3 { s3 with heap:=s3.heap.push { cls := .type "slice",data := .fields #[vl,vu,.none] } }:=I3.kept (t':=s3.toks) fun b ob q=>Heap.get?_push_of_some _ q
 obtain ⟨T,id,hT,ht,hg⟩:=hr pins { s3 with heap:=s3.heap.push { cls := .type "slice",data := .fields #[vl,vu,.none] } } σ H3 x v vl vu l u s3.heap.objs.size Q I4 r1 (Heap.IsSliceOf.new ..) pl pu q3
 show wpAny (model X.prog X.w) X.A (subscriptTail e (.Slice lo hi none p2) v (.ref s3.heap.objs.size)) (EP X pins σ Q) X.xe { s3 with heap:=s3.heap.push { cls := .type "slice",data := .fields #[vl,vu,.none] } }
 exact tail_any (ops:=[.ref s3.heap.objs.size,v]) ht hT hg (by with_unfolding_all rfl)
def cutV (xs:List V)(lo hi:Option Int):List V:=(xs.drop (HT.sIx xs.length 0 lo)).take (HT.sIx xs.length xs.length hi - HT.sIx xs.length 0 lo)
theorem qdk (xs:List V)(lo hi:Option Int):(cutV xs lo hi).length≤xs.length:=by
 unfold cutV
 rw [List.length_take,List.length_drop]
 omega
def rSlT (K:PySem.W.Frag):V->Option Int->Option Int->Hp->VK->Prop:=fun x lo hi H Q=>∃ a xs,x = .ref a/\SqT K H a xs /\
 ¬ (HT.sIx xs.length 0 lo=0/\HT.sIx xs.length xs.length hi=xs.length)/\∀ p,H p=none->Q (.ref p) (upd H p (.tup (cutV xs lo hi)))
theorem qk3:SlR X (rSlT X.K):=by
 intro pins s σ H x v vl vu lo hi sl Q I rx hs pl pu h
 obtain ⟨a,xs,rfl,hx,hw,q⟩:=h
 cases rx
 obtain ⟨its,r,ht,hz⟩:=I.tuple hx
 have hlen:its.toArray.size=xs.length:=by rw [List.size_toArray]; exact r.length.symm
 refine ⟨"tuple",_,PyProof.Rows.slot_tuple_getitem.lookup,ht.typeIs,?_⟩
 refine HT.getItem_tuple_cut ht hs pl pu (by rw [hlen]; exact hw) ?_ (by rw [hlen]; exact hz)
 rw [hlen]
 refine ⟨.ref s.heap.objs.size,_,I.laid (t':=s.toks) (o := .tup (cutV xs lo hi)) (fun b ob q=>Heap.get?_push_of_some _ q) (Nat.le_refl _) ?_,rfl,q _ (I.hok.fresh (Nat.le_refl _))⟩
 exact ⟨Nat.le_trans (qdk xs lo hi) hz,_,(r.drop (HT.sIx xs.length 0 lo)).take (HT.sIx xs.length xs.length hi - HT.sIx xs.length 0 lo),qbI.new _ _⟩
def rCatT (K:PySem.W.Frag):R2:=fun x y H Q=>∃ a b xs ys,x = .ref a/\y = .ref b/\SqT K H a xs/\SqT K H b ys/\xs≠[]/\xs.length + ys.length≤sizeLine /\
 (ys=[]->Q (.ref a) H)/\(ys≠[]->∀ p,H p=none->Q (.ref p) (upd H p (.tup (xs ++ ys))))
theorem Vals.nil_iff {xs:List V}{us:List Value}(r:Vals xs us):us=[]↔xs=[]:=by
 cases r with
 | nil=>simp
 | cons _ _=>simp
theorem qj8:OpR X (binaryOp .Add) (rCatT X.K):=by
 intro pins s σ H x y v u Q I rx ry h
 obtain ⟨a,b,xs,ys,rfl,rfl,ha,hb,hx,hz,q1,q2⟩:=h
 cases rx
 cases ry
 obtain ⟨its,r1,p1,_⟩:=I.tuple ha
 obtain ⟨its2,r2,p2,_⟩:=I.tuple hb
 refine HT.cat_tup p1 p2 (fun z=>hx (r1.nil_iff.mp z)) (fun z=>⟨.ref a,H,I,rfl,q1 (r2.nil_iff.mp z)⟩) (fun z=>?_) (by rw [<- r1.length,<- r2.length]; exact hz)
 refine ⟨.ref s.heap.objs.size,_,I.laid (t':=s.toks) (o := .tup (xs ++ ys)) (fun b ob q=>Heap.get?_push_of_some _ q) (Nat.le_refl _) ?_,rfl,q2 (fun w=>z (r2.nil_iff.mpr w)) _ (I.hok.fresh (Nat.le_refl _))⟩
 exact ⟨by rw [List.length_append]; exact hz,_,r1.append r2,qbI.new _ _⟩
end
def ixN (n:Nat)(i:Int):Option Nat:=if 0≤i then (if i < n then some i.toNat else none) else if -(n:Int)≤i then some (i + n).toNat else none
def atI {α:Type}(xs:List α)(i:Int):Option α:=(ixN xs.length i).bind fun j=>xs[j]?
theorem qhu {n:Nat}{i:Int}{j:Nat}(h:ixN n i=some j):seqIndex? i n=some j/\j < n/\-(n:Int)≤i/\i < n:=by
 unfold ixN at h
 by_cases h0:0≤i
 ·rw [if_pos h0] at h
  by_cases h1:i < n
  ·rw [if_pos h1] at h
   have e:i.toNat=j:=Option.some.inj h
   exact ⟨by rw [seqIndex_of h0 h1,e],by omega,by omega,h1⟩
  ·rw [if_neg h1] at h; cases h
 ·rw [if_neg h0] at h
  by_cases h1:-(n:Int)≤i
  ·rw [if_pos h1] at h
   have e:(i + n).toNat=j:=Option.some.inj h
   exact ⟨by rw [seqIndex_neg (by omega) h1,e],by omega,h1,by omega⟩
  ·rw [if_neg h1] at h; cases h
theorem qhZ {α:Type}{xs:List α}{i:Int}{v:α}(h:atI xs i=some v):∃ j,seqIndex? i xs.length=some j/\xs[j]?=some v/\j < xs.length/\-(xs.length:Int)≤i/\i < xs.length:=by
 unfold atI at h
 cases e:ixN xs.length i with
 | none=>rw [e] at h; cases h
 | some j =>
  rw [e] at h
  obtain ⟨h1,h2,h3,h4⟩:=qhu e
  exact ⟨j,h1,h,h2,h3,h4⟩
theorem qbO {α:Type}{xs:List α}{j:Nat}{v:α}(h:xs[j]?=some v):atI xs (j:Int)=some v:=by
 have hj:j < xs.length:=(List.getElem?_eq_some_iff.mp h).1
 have e:ixN xs.length (j:Int)=some j:=by
  unfold ixN
  rw [if_pos (by omega),if_pos (by omega)]; simp
 unfold atI; rw [e]; exact h
def qkL (b:Expr):Prop:=∀ o i,subscripted b false o i=operate [o,i] (getItem o i)
def IxR (X:Cx)(r:R2):Prop :=
 ∀ (value slice:Expr) (pins:List (Addr × Obj)) (s:Shared) (σ:St) (H:Hp) (x y:V) (v u:Value) (Q:VK),Inv X pins σ H s->RelV x v->RelV y u->r x y H Q ->
  subscripted slice false v u=operate [v,u] (getItem v u)->wpAny (model X.prog X.w) X.A (subscriptTail value slice v u) (EP X pins σ Q) X.xe s
def MtR (X:Cx)(id:String)(r:V->List V->Hp->VK->Prop):Prop :=
 ∀ (pins:List (Addr × Obj)) (s:Shared) (σ:St) (H:Hp) (x:V) (xs:List V) (v:Value) (us:List Value) (Q:VK),Inv X pins σ H s->RelV x v->Vals xs us->r x xs H Q ->
  wpAny (model X.prog X.w) X.A (call (.builtin id) (v :: us)) (EP X pins σ Q) X.xe s
section
variable {X:Cx}{a b:Expr}{ta tb:TE}{pos:Pos}
theorem qaA {r:R2}(hr:IxR X r)(ha:PE X a ta)(hb:PE X b tb)(hs:qkL b):PE X (.Subscript a b pos) (tOp r ta tb):=by
 intro pins s σ H Q I h
 exact Subscript_ (binT ha hb I h fun v u s2 x y H2 I2 rx ry q=>hr a b pins s2 σ H2 x y v u Q I2 rx ry q (hs _ _))
def rIxL (K:PySem.W.Frag):R2:=fun x y H Q=>∃ p xs i v,x = .ref p/\y = .int i/\SqL K H p xs/\atI xs i=some v/\Q v H
def rIxT (K:PySem.W.Frag):R2:=fun x y H Q=>∃ p xs i v,x = .ref p/\y = .int i/\SqT K H p xs/\atI xs i=some v/\Q v H
theorem qa0:IxR X (rIxL X.K):=by
 intro value slice pins s σ H x y v u Q I rx ry h hs
 obtain ⟨p,xs,i,z,rfl,rfl,hq,he,q⟩:=h
 cases rx
 obtain ⟨t,rfl⟩:=ry
 obtain ⟨its,r,pl,hz⟩:=I.list hq
 obtain ⟨j,h1,h2,h3,h4,h5⟩:=qhZ he
 obtain ⟨w,ew,rw'⟩:=r.get h2
 have hl:=r.length
 have hn:=qfL
 have fin:EP X pins σ Q w s:=⟨z,H,I,rw',q⟩
 by_cases h0:0≤i
 ·have hj:i.toNat=j:=by
   rw [seqIndex_of h0 h5] at h1
   exact Option.some.inj h1
  exact item_listR pl.isList h0 (by omega) (by rw [hj]; simpa using ew) fin hs
 ·have hj:(i + (its.toArray.size:Int)).toNat=j:=by
   rw [seqIndex_neg (by omega) h4] at h1
   rw [List.size_toArray,<- hl]
   exact Option.some.inj h1
  exact subscriptTail_builtinR (x:=w) pl.isList.typeIs slot_list_getitem.lookup
   (wpAny_getItem_list_neg (Q:=fun r s'=>r=w/\EP X pins σ Q r s') pl.isList (by omega) (by rw [List.size_toArray] <;> omega) (by omega) (by rw [hj]; simpa using ew) ⟨rfl,fin⟩) hs
theorem qay:IxR X (rIxT X.K):=by
 intro value slice pins s σ H x y v u Q I rx ry h hs
 obtain ⟨p,xs,i,z,rfl,rfl,hq,he,q⟩:=h
 cases rx
 obtain ⟨t,rfl⟩:=ry
 obtain ⟨its,r,pl,hz⟩:=I.tuple hq
 obtain ⟨j,h1,h2,h3,h4,h5⟩:=qhZ he
 obtain ⟨w,ew,rw'⟩:=r.get h2
 have hl:=r.length
 have hn:=qfL
 have fin:EP X pins σ Q w s:=⟨z,H,I,rw',q⟩
 exact subscriptTail_builtinR (x:=w) pl.typeIs slot_tuple_getitem.lookup
  (getItem_tuple (j:=j) (Q:=fun r s'=>r=w/\EP X pins σ Q r s') pl (by omega) (by omega) (by rw [List.size_toArray,<- hl]; exact h1) (by simpa using ew) ⟨rfl,fin⟩) hs
theorem qgi (its:List Value)(n j:Nat)(u:Value):Obj.mapSeq (·.setIfInBounds j u) { cls := .type "list",data := .seq its.toArray n }={ cls := .type "list",data := .seq (its.set j u).toArray n }:=by
 simp [Obj.mapSeq]
theorem Inv.lst {pins:List (Addr × Obj)}{σ:St}{H:Hp}{s:Shared}{p:Addr}{xs:List V}(I:Inv X pins σ H s)(h:H p=some (.lst xs)) :
  ∃ (its:List Value) (n:Nat),Vals xs its/\s.heap.get? p=some { cls := .type "list",data := .seq its.toArray n }/\xs.length≤sizeLine:=by
 obtain ⟨z,its,n,r,e⟩:=I.hok p _ h
 exact ⟨its,n,r,e,z⟩
theorem Inv.lstUpd {pins:List (Addr × Obj)}{σ:St}{H:Hp}{s:Shared}{p:Addr}{xs ys:List V}{its its':List Value}{n n':Nat}{f:Obj->Obj}(I:Inv X pins σ H s)(h:H p=some (.lst xs))
  (ho:s.heap.get? p=some { cls := .type "list",data := .seq its.toArray n }) (hf:f { cls := .type "list",data := .seq its.toArray n }={ cls := .type "list",data := .seq its'.toArray n' }) (r:Vals ys its') (hz:ys.length≤sizeLine) (t:Nat) :
  Inv X pins σ (upd H p (.lst ys)) { s with heap:=s.heap.update p f,toks:=t }:=by
 have e:(s.heap.update p f).get? p=some { cls := .type "list",data := .seq its'.toArray n' }:=by
  rw [Heap.get?_update_self f ho (by rw [hf] <;> rfl),hf]
 refine I.write (x:=p) (e:=p) (by rw [h]; trivial) (.inl rfl) (fun b u hb q=>(Heap.get?_update_other _ _ (Ne.symm hb)).trans q) ⟨_,e⟩ ?_
 exact ⟨hz,its',n',r,e⟩
def rSetL:V->V->V->Hp->(Hp->Prop)->Prop:=fun o i v H Q=>∃ p xs k j,o = .ref p/\i = .int k/\H p=some (.lst xs)/\ixN xs.length k=some j/\Q (upd H p (.lst (xs.set j v)))
theorem set_list:PSet X rSetL:=by
 intro pins s σ H o i v ov iv u Q I ro ri rv h
 obtain ⟨p,xs,k,j,rfl,rfl,hp,hj,q⟩:=h
 cases ro
 obtain ⟨t,rfl⟩:=ri
 obtain ⟨its,n,r,ho,hz⟩:=I.lst hp
 obtain ⟨h1,h2,h3,h4⟩:=qhu hj
 have hl:=r.length
 have hn:=qfL
 have I':Inv X pins σ (upd H p (.lst (xs.set j v))) { s with heap:=s.heap.update p (Obj.mapSeq (·.setIfInBounds j u)) } :=
  I.lstUpd hp ho (qgi its n j u) (r.set rv j) (by rw [List.length_set]; exact hz) s.toks
 by_cases h0:0≤k
 ·have hk:k.toNat=j:=by
   rw [seqIndex_of h0 h4] at h1
   exact Option.some.inj h1
  exact PySem.W.ki_setAt ho h0 (by omega) (by rw [List.size_toArray,<- hl]; exact h4) (by rw [hk]; exact ⟨_,I',q⟩)
 ·have hk:(k + (its.toArray.size:Int)).toNat=j:=by
   rw [seqIndex_neg (by omega) h3] at h1
   rw [List.size_toArray,<- hl]
   exact Option.some.inj h1
  exact PySem.W.ki_setBack ho (by omega) (by rw [List.size_toArray,<- hl]; exact h3) (by omega) (by rw [hk]; exact ⟨_,I',q⟩)
theorem qef (lo hi:Option Int)(n:Nat):(sliceBounds lo hi none n).1=((HT.sIx n 0 lo:Nat):Int)/\(sliceBounds lo hi none n).2.1=((HT.sIx n n hi:Nat):Int)/\(sliceBounds lo hi none n).2.2=1:=by
 refine ⟨?_,?_,rfl⟩
 ·cases lo with
  | none=>simp [sliceBounds,HT.sIx]
  | some i =>
   simp only [sliceBounds,HT.sIx,Option.getD_none,show (1:Int) > 0 by decide,if_true]
   by_cases h:i < 0
   ·simp only [h,if_true] <;> omega
   ·simp only [h,if_false] <;> omega
 ·cases hi with
  | none=>simp [sliceBounds,HT.sIx]
  | some i =>
   simp only [sliceBounds,HT.sIx,Option.getD_none,show (1:Int) > 0 by decide,if_true]
   by_cases h:i < 0
   ·simp only [h,if_true] <;> omega
   ·simp only [h,if_false] <;> omega
theorem qdN (its:List Value)(lo hi:Option Int):slicePick its.toArray lo hi none=((its.drop (HT.sIx its.length 0 lo)).take (HT.sIx its.length its.length hi - HT.sIx its.length 0 lo)).toArray:=by
 obtain ⟨h1,h2,h3⟩:=qef lo hi its.toArray.size
 unfold slicePick
 rw [h1,h2,h3]
 simp only [sliceRange_one,pick_run,List.size_toArray] <;> rfl
def rSlL (K:PySem.W.Frag):V->Option Int->Option Int->Hp->VK->Prop:=fun x lo hi H Q=>∃ a xs,x = .ref a/\SqL K H a xs/\∀ p,H p=none->Q (.ref p) (upd H p (.lst (cutV xs lo hi)))
theorem qaR:SlR X (rSlL X.K):=by
 intro pins s σ H x v vl vu lo hi sl Q I rx hs pl pu h
 obtain ⟨a,xs,rfl,hx,q⟩:=h
 cases rx
 obtain ⟨its,r,ht,hz⟩:=I.list hx
 have hlen:=r.length
 refine ⟨"list",_,slot_list_getitem.lookup,ht.isList.typeIs,?_⟩
 refine wpAny_getItem_list_slice ht.isList hs pl pu .none (by simp) ?_ (by rw [List.size_toArray] <;> omega)
 rw [qdN,<- hlen]
 refine ⟨.ref s.heap.objs.size,_,I.laid (t':=s.toks) (o := .lst (cutV xs lo hi)) (fun b ob q=>Heap.get?_push_of_some _ q) (Nat.le_refl _) ?_,rfl,q _ (I.hok.fresh (Nat.le_refl _))⟩
 exact ⟨Nat.le_trans (qdk xs lo hi) hz,_,0,(r.drop (HT.sIx xs.length 0 lo)).take (HT.sIx xs.length xs.length hi - HT.sIx xs.length 0 lo),Heap.get?_push_size _ rfl⟩
def qiS:V->Bool
 | .non=>true
 | .bl _=>true
 | .int _=>true
 | .str _=>true
 | _=>false
def eqV:V->V->Bool
 | .non,.non=>true
 | .bl a,.bl b=>a == b
 | .bl a,.int b=>(if a then 1 else 0) == b
 | .int a,.bl b=>a == (if b then 1 else 0)
 | .int a,.int b=>a == b
 | .str a,.str b=>a == b
 | _,_=>false
theorem qlK {A:Around}{s:Shared}{y x:V}{u v:Value}(ry:RelV y u)(rx:RelV x v)(fy:qiS y=true)(fx:qiS x=true):SeqAt.EqAt A s u v (eqV y x):=by
 cases y with
 | non =>
  cases ry
  cases x with
  | non=>cases rx; exact SeqAt.EqAt.same _
  | bl b=>cases rx; exact SeqAt.EqAt.none_bool b
  | int b=>obtain ⟨t,rfl⟩:=rx; exact SeqAt.EqAt.none_int b t
  | str b=>obtain ⟨t,rfl⟩:=rx; exact SeqAt.EqAt.none_str b t
  | _=>exact absurd (show false=true from fx) Bool.false_ne_true
 | bl a =>
  cases ry
  cases x with
  | non=>cases rx; exact SeqAt.EqAt.bool_none a
  | bl b=>cases rx; exact SeqAt.EqAt.bool_bool a b
  | int b=>obtain ⟨t,rfl⟩:=rx; exact SeqAt.EqAt.bool_int a b t
  | str b=>obtain ⟨t,rfl⟩:=rx; exact SeqAt.EqAt.bool_str a b t
  | _=>exact absurd (show false=true from fx) Bool.false_ne_true
 | int a =>
  obtain ⟨t',rfl⟩:=ry
  cases x with
  | non=>cases rx; exact SeqAt.EqAt.int_none a t'
  | bl b=>cases rx; exact SeqAt.EqAt.int_bool a t' b
  | int b=>obtain ⟨t,rfl⟩:=rx; exact SeqAt.EqAt.int_int a t' b t
  | str b=>obtain ⟨t,rfl⟩:=rx; exact SeqAt.EqAt.int_str a t' b t
  | _=>exact absurd (show false=true from fx) Bool.false_ne_true
 | str a =>
  obtain ⟨t',rfl⟩:=ry
  cases x with
  | non=>cases rx; exact SeqAt.EqAt.str_none a t'
  | bl b=>cases rx; exact SeqAt.EqAt.str_bool a t' b
  | int b=>obtain ⟨t,rfl⟩:=rx; exact SeqAt.EqAt.str_int a t' b t
  | str b=>obtain ⟨t,rfl⟩:=rx; exact SeqAt.EqAt.str_str a t' b t
  | _=>exact absurd (show false=true from fx) Bool.false_ne_true
 | _=>exact absurd (show false=true from fy) Bool.false_ne_true
theorem qaj:qbP X (.builtin "len") (fun xs H Q=>∃ p ys,xs=[.ref p]/\(SqL X.K H p ys\/SqT X.K H p ys)/\Q (.int ys.length) H):=by
 intro pins s σ H xs us Q I r h
 obtain ⟨p,ys,rfl,hq,q⟩:=h
 obtain ⟨u,rfl,rx⟩:=vals1 r
 cases rx
 have hn:=qfL
 rcases hq with hq | hq
 ·obtain ⟨its,r',pl,hz⟩:=I.list hq
  have hlen:=r'.length
  exact Calls.call_len_list pl.isList (by simp only [List.size_toArray] <;> omega) ⟨.int ys.length,H,I.tok _,⟨s.toks + 1,by rw [List.size_toArray,hlen]⟩,q⟩
 ·obtain ⟨its,r',pl,hz⟩:=I.tuple hq
  have hlen:=r'.length
  exact len_tuple pl (by simp only [List.size_toArray] <;> omega) ⟨.int ys.length,H,I.tok _,⟨s.toks + 1,by rw [List.size_toArray,hlen]⟩,q⟩
theorem qcK:qbP X (.type "list") (fun xs H Q=>∃ p ys,xs=[.ref p]/\(SqL X.K H p ys\/SqT X.K H p ys)/\∀ l,H l=none->Q (.ref l) (upd H l (.lst ys))):=by
 intro pins s σ H xs us Q I r h
 obtain ⟨p,ys,rfl,hq,q⟩:=h
 obtain ⟨u,rfl,rx⟩:=vals1 r
 cases rx
 have fin:∀ (its:List Value),Vals ys its->ys.length≤sizeLine->∀ (h':Heap) (c':Nat),(∀ b o',s.heap.get? b=some o'->h'.get? b=some o') ->
   h'.get? s.heap.objs.size=some { cls := .type "list",dict:=none,data := .seq its.toArray c',slots:=#[] }->EP X pins σ Q (.ref s.heap.objs.size) { s with heap:=h' }:=fun its r' hz h' c' kp e =>
  ⟨.ref s.heap.objs.size,_,I.laid (t':=s.toks) kp (Nat.le_refl _) (show qaV X.prog X.w _ h' _ (.lst ys) from ⟨hz,its,c',r',e⟩),rfl,q _ (I.hok.fresh (Nat.le_refl _))⟩
 rcases hq with hq | hq
 ·obtain ⟨its,r',pl,hz⟩:=I.list hq
  have hlen:=r'.length
  obtain ⟨o,ho,hc,n,hd⟩:=pl.isList
  exact call_list_seq p (.inl rfl) ho hc hd (fun h' c' kp e=>fin its r' hz h' c' kp e) (by simp only [List.size_toArray] <;> omega)
 ·obtain ⟨its,r',pl,hz⟩:=I.tuple hq
  have hlen:=r'.length
  obtain ⟨o,ho,hc,n,hd⟩:=pl
  exact call_list_seq p (.inr rfl) ho hc hd (fun h' c' kp e=>fin its r' hz h' c' kp e) (by simp only [List.size_toArray] <;> omega)
theorem qcj:qbP X (.type "tuple") (fun xs H Q=>∃ p ys,xs=[.ref p]/\((SqL X.K H p ys/\∀ l,H l=none->Q (.ref l) (upd H l (.tup ys)))\/(SqT X.K H p ys/\Q (.ref p) H))):=by
 intro pins s σ H xs us Q I r h
 obtain ⟨p,ys,rfl,h⟩:=h
 obtain ⟨u,rfl,rx⟩:=vals1 r
 cases rx
 rcases h with ⟨hq,q⟩ | ⟨hq,q⟩
 ·obtain ⟨its,r',pl,hz⟩:=I.list hq
  have hlen:=r'.length
  refine call_tuple_list pl.isList (fun h' kp=>?_) (by simp only [List.size_toArray] <;> omega)
  have I1:Inv X pins σ H { s with heap:=h' }:=I.kept (t':=s.toks) kp
  have I2:Inv X pins σ (upd H h'.objs.size (.tup ys)) { s with heap:=h'.push { cls := .type "tuple",data := .seq its.toArray } } :=
   I1.laid (t':=s.toks) (fun b o e=>Heap.get?_push_of_some _ e) (Nat.le_refl _) (show qaV X.prog X.w _ _ _ (.tup ys) from ⟨hz,its,r',qbI.new _ _⟩)
  exact ⟨.ref h'.objs.size,_,I2,rfl,q _ (I1.hok.fresh (Nat.le_refl _))⟩
 ·obtain ⟨its,r',pl,hz⟩:=I.tuple hq
  exact call_tuple_same pl ⟨.ref p,H,I,rfl,q⟩
def tyV (K:PySem.W.Frag)(T:String)(x:V)(H:Hp):Prop:=match x with
 | .str _=>T = "str"
 | .int _=>T = "int"
 | .ref p=>(T = "list" /\ ∃ xs,SqL K H p xs)\/(T = "tuple" /\ ∃ o,K.lookup p=some o/\o.cls = .type "tuple" /\ o.dict=none) \/
   (T = "dict" /\ ((∃ kvs,H p=some (.dK kvs))\/∃ kvs,H p=some (.dT kvs)))\/(T = "set" /\ ∃ S n,H p=some (.set S n))
 | _=>False
theorem qkN {pins:List (Addr × Obj)}{σ:St}{H:Hp}{s:Shared}{T:String}{x:V}{v:Value}(I:Inv X pins σ H s)(r:RelV x v)(ty:tyV X.K T x H) :
  s.TypeIs v T/\∀ a,v = .ref a->∃ ob,s.heap.get? a=some ob/\ob.dict=none:=by
 cases x with
 | str z =>
  obtain ⟨t,rfl⟩:=r
  cases (show T = "str" from ty)
  exact ⟨typeIs_str s z t,fun _ e=>nomatch e⟩
 | int i =>
  obtain ⟨t,rfl⟩:=r
  cases (show T = "int" from ty)
  exact ⟨typeIs_int s i t,fun _ e=>nomatch e⟩
 | ref p =>
  cases r
  rcases ty with ⟨rfl,xs,hq⟩ | ⟨rfl,o,hk,hc,hd⟩ | ⟨rfl,hk⟩ | ⟨rfl,S,n,hk⟩
  ·obtain ⟨its,_,pl,_⟩:=I.list hq
   refine ⟨pl.isList.typeIs,fun a e=>?_⟩
   cases e
   obtain ⟨o,n,e,c,hd,_⟩:=pl
   exact ⟨o,e,hd⟩
  ·refine ⟨⟨o,I.kIn p o hk,hc⟩,fun a e=>?_⟩
   cases e
   exact ⟨o,I.kIn _ o hk,hd⟩
  ·have z:∃ o,s.heap.get? p=some o/\o.ExactDict:=by
    rcases hk with ⟨kvs,hk⟩ | ⟨kvs,hk⟩
    ·obtain ⟨_,_,_,_,o,_,_,e,ex,_⟩:=I.hok p _ hk
     exact ⟨o,e,ex⟩
    ·obtain ⟨_,_,_,_,o,_,_,e,ex,_⟩:=I.hok p _ hk
     exact ⟨o,e,ex⟩
   obtain ⟨o,e,ex⟩:=z
   refine ⟨⟨o,e,ex.1⟩,fun a e2=>?_⟩
   cases e2
   exact ⟨o,e,ex.2.1⟩
  ·obtain ⟨o,_,_,_,e,ex,_⟩:=I.hok p _ hk
   refine ⟨⟨o,e,ex.1⟩,fun a e2=>?_⟩
   cases e2
   exact ⟨o,e,ex.2.1⟩
 | _=>exact False.elim ty
def tBM (K:PySem.W.Frag)(T:String)(r:V->List V->Hp->VK->Prop)(to:TE)(t:TA):TE:=fun σ H Q=>to σ H fun x H1=>tyV K T x H1/\t σ H1 fun xs H2=>r x xs H2 Q
variable {o e:Expr}{es:List Expr}{to:TE}{t:TA}{name:Str}{apos cpos:Pos}{T id:String}{r:V->List V->Hp->VK->Prop}
theorem pe_bm (pa:PlainAttrs T)(slot:Slot T name id)(hty:typeOf (.builtin id)=pure (.type "method_descriptor"))(hm:MtR X id r)(ho:PE X o to)(ha:PA X (e :: es) t)
  (hbase:attributeBase o name X.env (eval o X.env)=eval o X.env:=by rfl)
  (hfew:((backTo cpos (starEach (e :: es) X.env)).all (fun x=>!x.1) && (backToKw cpos (keywordEach [] X.env)).all (fun x=>x.1.isSome)
    && decide ((e :: es).length + ([]:List Keyword).length + (if ([]:List Keyword).isEmpty then 0 else 1) < 30))=true:=by rfl)
  (hline:(apos.endLine == cpos.line)=true:=by rfl) (hs:starEach (e :: es) X.env=(false,eval e X.env) :: starEach es X.env:=by rfl) (hplain:(backTo cpos (starEach es X.env)).any (·.1)=false:=by rfl) :
  PE X (.Call (.Attribute o name apos) (e :: es) [] cpos) (tBM X.K T r to t):=by
 intro pins s σ H Q I h
 refine wpAny_Call_method_late hbase hfew hline rfl (thn (ho pins s σ H _ I h) fun v s1 ⟨x,H1,I1,r1,ty,q1⟩=>?_)
 obtain ⟨h1,h2⟩:=qkN I1 r1 ty
 refine ⟨T,id,pa,slot,hty,h1,h2,?_⟩
 have hA:=ha cpos pins s1 σ H1 _ I1 q1
 rw [hs] at hA ⊢
 refine Calls.callWith_builtin (by show (false || (backTo cpos (starEach es X.env)).any (·.1))=false; rw [hplain] <;> rfl) (Calls.evalArgs_plain ?_)
 exact thn hA fun us s2 ⟨vs,H2,I2,r2,q2⟩=>hm pins s2 σ H2 x vs v us Q I2 r1 r2 q2
/- xs.append(e),list.index on a module's tuple .. are MtR facts of 06m -/
end
def MtM (X:Cx)(id:String)(r:V->List V->Hp->VK->Prop):Prop :=
 ∀ (pins:List (Addr × Obj)) (s:Shared) (σ:St) (H:Hp) (x:V) (xs:List V) (v:Value) (us:List Value) (Q:VK),Inv X pins σ H s->RelV x v->Vals xs us->r x xs H Q ->
  wpAny (model X.prog X.w) X.A (call (.builtin id) (v :: us)) (EP X pins σ Q) X.xe s
theorem Vals.one:∀ {x:V} {us:List Value},Vals [x] us->∃ u,us=[u]/\RelV x u
 | _,_,.cons r .nil=>⟨_,rfl,r⟩
theorem Vals.reverse {xs:List V}{us:List Value}(h:Vals xs us):Vals xs.reverse us.reverse:=by
 induction h with
 | nil=>exact .nil
 | cons r t ih=>rw [List.reverse_cons,List.reverse_cons]; exact Vals.append ih (.cons r .nil)
theorem Vals.rep {xs:List V}{us:List Value}(h:Vals xs us):∀ k:Nat,Vals (List.replicate k xs).flatten (List.replicate k us).flatten
 | 0 => .nil
 | k + 1=>by
  rw [List.replicate_succ,List.replicate_succ,List.flatten_cons,List.flatten_cons]
  exact Vals.append h (Vals.rep h k)
theorem foldl_rep (its:List Value):∀ (k:Nat) (acc:List Value),
  List.foldl (fun x1 x2=>x1 ++ x2) acc.toArray (List.replicate k its.toArray)=(acc ++ (List.replicate k its).flatten).toArray
 | 0,acc=>by simp
 | k + 1,acc=>by
  have e:acc.toArray ++ its.toArray=(acc ++ its).toArray:=by simp
  have e2:(acc ++ its) ++ (List.replicate k its).flatten=acc ++ (List.replicate (k + 1) its).flatten:=by
   rw [List.replicate_succ,List.flatten_cons,List.append_assoc]
  rw [<- e2,<- foldl_rep its k (acc ++ its),<- e,List.replicate_succ,List.foldl_cons]
section
variable {X:Cx}{pins:List (Addr × Obj)}{σ:St}{H:Hp}{s:Shared}{l b:Addr}{xs ys zs:List V}
theorem Inv.lset {its its':List Value}{n:Nat}{f:Array Value->Array Value}{t':Nat}(I:Inv X pins σ H s)(hH:H l=some (.lst xs))
  (e:s.heap.get? l=some { cls := .type "list",data := .seq its.toArray n }) (hf:f its.toArray=its'.toArray) (hv:Vals ys its') (hz:ys.length≤sizeLine) :
  Inv X pins σ (upd H l (.lst ys)) { s with heap:=s.heap.update l (Obj.mapSeq f),toks:=t' }:=by
 have q:=PySem.IsL.update e f
 rw [hf] at q
 refine I.write (x:=l) (e:=l) (by rw [hH]; exact trivial) (.inl rfl) (fun b' u hb hu=>(Heap.get?_update_other s.heap (Obj.mapSeq f) (Ne.symm hb)).trans hu) ⟨_,q⟩ ?_
 exact ⟨hz,its',_,hv,q⟩
theorem Inv.lnew {its:List Value}{t':Nat}(I:Inv X pins σ H s)(hv:Vals ys its)(hz:ys.length≤sizeLine) :
  Inv X pins σ (upd H s.heap.objs.size (.lst ys)) { s with heap:=s.heap.push { cls := .type "list",data := .seq its.toArray },toks:=t' } :=
 I.laid (fun _ _ q=>Heap.get?_push_of_some _ q) (Nat.le_refl _) ⟨hz,its,0,hv,Heap.get?_push_size _ rfl⟩
theorem Inv.fresh (I:Inv X pins σ H s):H s.heap.objs.size=none:=I.hok.fresh (Nat.le_refl _)
theorem Inv.lstM (I:Inv X pins σ H s)(hH:H l=some (.lst xs)):xs.length≤sizeLine/\∃ (its:List Value) (n:Nat),Vals xs its/\xs.length=its.length/\s.heap.get? l=some { cls := .type "list",data := .seq its.toArray n }:=by
 obtain ⟨z,its,n,r,e⟩:=I.hok l _ hH
 exact ⟨z,its,n,r,r.length,e⟩
theorem qfI {n:Nat}(h:n≤sizeLine):Builtin.List.listTooLong n=false:=by
 unfold Builtin.List.listTooLong
 exact decide_eq_false (by omega)
end
section
variable {X:Cx}
def qjL:V->List V->Hp->VK->Prop:=fun x vs H Q=>∃ l xs y,x = .ref l/\vs=[y]/\H l=some (.lst xs)/\xs.length < sizeLine/\Q .non (upd H l (.lst (xs ++ [y])))
theorem qes:MtM X "list.append" qjL:=by
 intro pins s σ H x vs v us Q I rx rv h
 obtain ⟨l,xs,y,rfl,rfl,hH,hz,q⟩:=h
 cases rx
 obtain ⟨u,rfl,ru⟩:=rv.one
 obtain ⟨z,its,n,r,hl,e⟩:=I.lstM hH
 refine call_meets F.slot_list_append ⟨_,e,rfl⟩ F.entry_list_append (F.args_list_append_2 _ _) (PySem.list_append l its.toArray n u (by rw [List.size_toArray]; omega)) ⟨e,?_⟩
 refine ⟨.non,_,I.lset (its':=its ++ [u]) hH e (by simp) (r.append (.cons ru .nil)) ?_,rfl,q⟩
 rw [List.length_append,List.length_singleton]
 omega
def qjK:V->List V->Hp->VK->Prop:=fun x vs H Q=>∃ l b xs zs,x = .ref l/\vs=[.ref b]/\H l=some (.lst xs)/\H b=some (.lst zs)/\xs.length + zs.length≤sizeLine/\Q .non (upd H l (.lst (xs ++ zs)))
theorem qhj:MtM X "list.extend" qjK:=by
 intro pins s σ H x vs v us Q I rx rv h
 obtain ⟨l,b,xs,zs,rfl,rfl,hH,hB,hz,q⟩:=h
 cases rx
 obtain ⟨u,rfl,ru⟩:=rv.one
 cases ru
 obtain ⟨z,its,n,r,hl,e⟩:=I.lstM hH
 obtain ⟨z2,its2,n2,r2,hl2,e2⟩:=I.lstM hB
 have hsz:its.toArray.size + its2.toArray.size≤sizeLine:=by rw [List.size_toArray,List.size_toArray]; omega
 have hlong:¬ (!its.toArray.isEmpty && Builtin.List.listTooLong (its.toArray.size + its2.toArray.size))=true:=by
  rw [qfI hsz,Bool.and_false]
  exact Bool.false_ne_true
 refine call_meets F.slot_list_extend ⟨_,e,rfl⟩ F.entry_list_extend (F.args_list_extend_2 _ _)
  (AutoSeq1.list_extend_list_list_0 l its.toArray n b its2.toArray n2 hlong (by rw [List.size_toArray]; omega) (by omega)) ⟨e,e2,?_⟩
 refine ⟨.non,_,I.lset (its':=its ++ its2) hH e (by simp) (r.append r2) ?_,rfl,q⟩
 rw [List.length_append]
 omega
def rCat:R2:=fun x y H Q=>∃ l b xs zs,x = .ref l/\y = .ref b/\H l=some (.lst xs)/\H b=some (.lst zs)/\xs.length + zs.length≤sizeLine/\∀ p,H p=none->Q (.ref p) (upd H p (.lst (xs ++ zs)))
theorem qbx:OpR X (binaryOp .Add) rCat:=by
 intro pins s σ H x y v u Q I rx ry h
 obtain ⟨l,b,xs,zs,rfl,rfl,hH,hB,hz,q⟩:=h
 cases rx
 cases ry
 obtain ⟨z,its,n,r,hl,e⟩:=I.lstM hH
 obtain ⟨z2,its2,n2,r2,hl2,e2⟩:=I.lstM hB
 refine PySem.P.add_list e e2 ?_ (by rw [List.size_toArray,List.size_toArray]; omega)
 have ea:its.toArray ++ its2.toArray=(its ++ its2).toArray:=by simp
 rw [ea]
 exact ⟨.ref _,_,I.lnew (t':=s.toks) (r.append r2) (by rw [List.length_append]; omega),rfl,q _ I.fresh⟩
def rRep:R2:=fun x y H Q=>∃ l k xs,x = .ref l/\y = .int k/\H l=some (.lst xs)/\-(2 ^ 63)≤k/\k < 2 ^ 63/\xs.length * k.toNat≤sizeLine /\
 ∀ p,H p=none->Q (.ref p) (upd H p (.lst (List.replicate k.toNat xs).flatten))
theorem len_rep {α:Type}(xs:List α)(k:Nat):(List.replicate k xs).flatten.length=k * xs.length:=by
 induction k with
 | zero=>simp
 | succ k ih=>rw [List.replicate_succ,List.flatten_cons,List.length_append,ih,Nat.succ_mul,Nat.add_comm]
theorem qg6:OpR X (binaryOp .Mult) rRep:=by
 intro pins s σ H x y v u Q I rx ry h
 obtain ⟨l,k,xs,rfl,rfl,hH,h1,h2,hz,q⟩:=h
 cases rx
 obtain ⟨t,rfl⟩:=ry
 obtain ⟨z,its,n,r,hl,e⟩:=I.lstM hH
 have hlen:its.toArray.size * k.toNat≤sizeLine:=by rw [List.size_toArray,<- hl]; exact hz
 have hcap:¬ its.toArray.size * k.toNat > (2 ^ 63 - 1) / 8:=by
  have:(sizeLine:Nat)≤(2 ^ 63 - 1) / 8:=by decide
  omega
 have hfit:¬ (!Builtin.List.listFitsIndex k)=true:=by
  rw [fitsIndex_both h1 h2]
  exact Bool.false_ne_true
 have hlong:¬ Builtin.List.listTooLong (its.toArray.size * k.toNat)=true:=by
  rw [qfI hlen]
  exact Bool.false_ne_true
 have hnew:List.foldl (fun x1 x2=>x1 ++ x2) #[] (List.replicate (if its.toArray.isEmpty=true then 0 else k.toNat) its.toArray)=(List.replicate k.toNat its).flatten.toArray:=by
  have f0:∀ m:Nat,List.foldl (fun x1 x2=>x1 ++ x2) #[] (List.replicate m its.toArray)=(List.replicate m its).flatten.toArray:=fun m=>by
   have:=foldl_rep its m []
   rw [List.nil_append] at this
   exact this
  rw [f0]
  cases its with
  | nil=>simp
  | cons a r'=>rw [if_neg (by simp)]
 refine wpAny_binaryOp_repeat_ref (T := "list") (U := "int") (by decide) ⟨_,e,rfl⟩ (fun s'=>typeIs_int s' k t) noFill_list_mul F.fills_int_mul F.slot_int_rmul repeat_list F.slot_int_index.lookup
  (call_meets F.slot_int_rmul (typeIs_int s k t) F.entry_int_rmul (F.args_int_rmul_2 _ _) (int___rmul___int_list k t l its.toArray n)
    ⟨e,rfl,⟨_,e,rfl⟩,call_meets F.slot_list_mul ⟨_,e,rfl⟩ F.entry_list_mul (F.args_list_mul_2 _ _) (AutoListH.list___mul___list_int_3 l its.toArray n k t hfit hcap hlong) ⟨e,?_⟩⟩)
 rw [hnew]
 exact ⟨.ref _,_,I.lnew (t':=s.toks) (r.rep k.toNat) (by rw [len_rep,Nat.mul_comm]; exact hz),rfl,q _ I.fresh⟩
end
section
variable {κ:Type}[DecidableEq κ]
def valV (kvs:List (κ × V))(k:κ):Option V:=(kvs.find? fun kv=>decide (kv.1=k)).map (·.2)
def putK (kvs:List (κ × V))(k:κ)(v:V):List (κ × V) :=
 if (kvs.any fun kv=>decide (kv.1=k))=true then kvs.map (fun kv=>if kv.1=k then (kv.1,v) else kv) else kvs ++ [(k,v)]
theorem qcN {p:κ × V}{r:List (κ × V)}{k:κ}(e:p.1=k):valV (p :: r) k=some p.2:=by simp [valV,List.find?_cons,e]
theorem qcO {p:κ × V}{r:List (κ × V)}{k:κ}(e:¬ p.1=k):valV (p :: r) k=valV r k:=by simp [valV,List.find?_cons,e]
theorem qft (k:κ):∀ kvs:List (κ × V),(kvs.any fun kv=>decide (kv.1=k))=(valV kvs k).isSome
 | []=>rfl
 | p :: r=>by
  rw [List.any_cons]
  by_cases e:p.1=k
  ·simp only [qcN e,decide_eq_true e,Bool.true_or,Option.isSome_some]
  ·rw [qcO e,decide_eq_false e,Bool.false_or]; exact qft k r
theorem qbC (kvs:List (κ × V))(k:κ)(v:V):(putK kvs k v).length≤kvs.length + 1:=by
 unfold putK
 split
 ·rw [List.length_map]; omega
 ·rw [List.length_append,List.length_cons,List.length_nil]; omega
theorem RelO.isSome_eq {o:Option V}{u:Option Value}(r:RelO o u):o.isSome=u.isSome:=by
 cases o with
 | none=>cases u with
  | none=>rfl
  | some _=>exact (show False from r).elim
 | some _=>cases u with
  | none=>exact (show False from r).elim
  | some _=>rfl
theorem RelO.getD {o:Option V}{u:Option Value}{d:V}{d':Value}(r:RelO o u)(rd:RelV d d'):RelV (o.getD d) (u.getD d'):=by
 cases o with
 | none=>cases u with
  | none=>exact rd
  | some _=>exact (show False from r).elim
 | some _=>cases u with
  | none=>exact (show False from r).elim
  | some _=>exact r
theorem KV.val {kvs:List (κ × V)}{vs:List (κ × Value)}(r:KV kvs vs)(k:κ):RelO (valV kvs k) (valueAt vs k):=by
 unfold KV at r
 induction r with
 | nil=>exact True.intro
 | @cons p q ps qs h t ih =>
  obtain ⟨h1,h2⟩:=h
  by_cases e:p.1=k
  ·have e':q.1=k:=h1.symm.trans e
   have b:valueAt (q :: qs) k=some q.2:=by simp [valueAt,List.find?_cons,e']
   rw [qcN e,b]; exact h2
  ·have e':¬ q.1=k:=fun z=>e (h1.trans z)
   have b:valueAt (q :: qs) k=valueAt qs k:=by simp [valueAt,List.find?_cons,e']
   rw [qcO e,b]; exact ih
theorem KV.any {kvs:List (κ × V)}{vs:List (κ × Value)}(r:KV kvs vs)(k:κ):(kvs.any fun kv=>decide (kv.1=k))=vs.any fun kv=>decide (kv.1=k):=by
 unfold KV at r
 induction r with
 | nil=>rfl
 | cons h t ih=>rw [List.any_cons,List.any_cons,ih,h.1]
theorem KV.repl {kvs:List (κ × V)}{vs:List (κ × Value)}(r:KV kvs vs)(k:κ){y:V}{u:Value}(ry:RelV y u) :
  KV (kvs.map fun kv=>if kv.1=k then (kv.1,y) else kv) (vs.map fun kv=>if kv.1=k then (kv.1,u) else kv):=by
 unfold KV at r ⊢
 induction r with
 | nil=>exact .nil
 | @cons p q ps qs h t ih =>
  rw [List.map_cons,List.map_cons]
  refine .cons ?_ ih
  obtain ⟨h1,h2⟩:=h
  by_cases e:p.1=k
  ·rw [if_pos e,if_pos (h1.symm.trans e)]; exact ⟨h1,ry⟩
  ·rw [if_neg e,if_neg (fun z=>e (h1.trans z))]; exact ⟨h1,h2⟩
theorem KV.put {kvs:List (κ × V)}{vs:List (κ × Value)}(r:KV kvs vs)(k:κ){y:V}{u:Value}(ry:RelV y u):KV (putK kvs k y) (stored vs k u):=by
 unfold putK stored
 rw [r.any k]
 by_cases e:(vs.any fun kv=>decide (kv.1=k))=true
 ·rw [if_pos e,if_pos e]; exact r.repl k ry
 ·rw [if_neg e,if_neg e]; exact Paired.snoc r ⟨rfl,ry⟩
theorem KV.length {kvs:List (κ × V)}{vs:List (κ × Value)}(r:KV kvs vs):kvs.length=vs.length:=Paired.length r
end
theorem qhs {P:Program}{w:World}{k:Key}{u:Value}(r:RelV (kV k) u):(qaF P w).is k u=true:=by
 cases k with
 | inl i=>obtain ⟨t,e⟩:=(show ∃ t,u=Value.int i t from r); subst e; exact qe9 P w i t
 | inr x=>obtain ⟨t,e⟩:=(show ∃ t,u=Value.str x t from r); subst e; exact qe8 P w x t
theorem qex {P:Program}{w:World}:∀ {ks:List Key} {us:List Value},Vals (ks.map kV) us->ItemsAre (qaF P w) ks us
 | [],_,r=>by rw [List.map_nil] at r; cases r; exact .nil
 | k :: ks,_,r=>by
  rw [List.map_cons] at r
  cases r with
  | cons h t=>exact .cons (qhs h) (qex t)
abbrev KT (H:Hp):List (List Key × V)->List (List Key × Addr × Value)->Prop:=Paired fun p q=>p.1=q.1/\H q.2.1=some (.tup (p.1.map kV))/\RelV p.2 q.2.2
theorem KT.val {H:Hp}{kvs:List (List Key × V)}{xs:List (List Key × Addr × Value)}(r:KT H kvs xs)(k:List Key):RelO (valV kvs k) ((atKey xs k).map (·.2)):=by
 induction r with
 | nil=>exact True.intro
 | @cons p q ps qs h t ih =>
  obtain ⟨h1,_,h2⟩:=h
  by_cases e:p.1=k
  ·have e':q.1=k:=h1.symm.trans e
   have b:atKey (q :: qs) k=some q.2:=by simp [atKey,List.find?_cons,e']
   rw [qcN e,b]; exact h2
  ·have e':¬ q.1=k:=fun z=>e (h1.trans z)
   have b:atKey (q :: qs) k=atKey qs k:=by simp [atKey,List.find?_cons,e']
   rw [qcO e,b]; exact ih
theorem KT.repl {H:Hp}{kvs:List (List Key × V)}{xs:List (List Key × Addr × Value)}(r:KT H kvs xs)(k:List Key){y:V}{u:Value}(ry:RelV y u) :
  KT H (kvs.map fun kv=>if kv.1=k then (kv.1,y) else kv) (xs.map (putAt k u)):=by
 induction r with
 | nil=>exact .nil
 | @cons p q ps qs h t ih =>
  rw [List.map_cons,List.map_cons]
  refine .cons ?_ ih
  obtain ⟨h1,h2,h3⟩:=h
  unfold putAt
  by_cases e:p.1=k
  ·rw [if_pos e,if_pos (h1.symm.trans e)]; exact ⟨h1,h2,ry⟩
  ·rw [if_neg e,if_neg (fun z=>e (h1.trans z))]; exact ⟨h1,h2,h3⟩
theorem KT.put {H:Hp}{kvs:List (List Key × V)}{xs:List (List Key × Addr × Value)}(r:KT H kvs xs)(k:List Key){b:Addr}{y:V}{u:Value}(hb:H b=some (.tup (k.map kV)))(ry:RelV y u) :
  KT H (putK kvs k y) (storedH xs k b u):=by
 have e:(kvs.any fun kv=>decide (kv.1=k))=(atKey xs k).isSome:=by
  rw [qft,(r.val k).isSome_eq,Option.isSome_map]
 unfold putK storedH
 rw [e]
 by_cases q:(atKey xs k).isSome=true
 ·rw [if_pos q,if_pos q]; exact r.repl k ry
 ·rw [if_neg q,if_neg q]; exact Paired.snoc r ⟨rfl,hb,ry⟩
theorem KT.keeps {H H':Hp}{kvs:List (List Key × V)}{xs:List (List Key × Addr × Value)}(r:KT H kvs xs)(ht:∀ b ys,H b=some (.tup ys)->H' b=some (.tup ys)):KT H' kvs xs :=
 Paired.mapP r fun _ _ z=>⟨z.1,ht _ _ z.2.1,z.2.2⟩
section
variable {P:Program}{w:World}{H:Hp}{h:Heap}{a:Addr}
theorem qjI {u:HO}(ok:HOk P w H h)(e:Rd H a u):qaV P w H h a u:=e.ok ok
theorem qhL {kvs:List (Key × V)}(ok:HOk P w H h)(e:Rd H a (.dK kvs)):kvs.length≤sizeLine/\(a == sysModules)=false/\∃ vs,KV kvs vs/\h.DictOf (qaF P w) a vs :=
 show qaV P w H h a (.dK kvs) from qjI ok e
theorem qlO {kvs:List (Key × V)}(ok:HOk P w H h)(e:H a=some (.dK kvs)):kvs.length≤sizeLine/\(a == sysModules)=false/\∃ vs,KV kvs vs/\h.DictOf (qaF P w) a vs:=qhL ok (.inl e)
theorem qev {ks:List Key}(ok:HOk P w H h)(e:H a=some (.tup (ks.map kV))):(tupleKind (qaF P w)).is h ks a:=by
 obtain ⟨_,its,r,o,h1,h2,n,h3,_⟩:=(show qaV P w H h a (.tup (ks.map kV)) from ok a _ e)
 exact ⟨o,its.toArray,n,h1,h2,h3,by simpa using qex r⟩
theorem qhI {kvs:List (List Key × V)}(ok:HOk P w H h)(e:Rd H a (.dT kvs)):kvs.length≤sizeLine/\(a == sysModules)=false /\
  ∃ xs,KT H kvs xs/\h.DictOfH (tupleKind (qaF P w)) a xs:=by
 obtain ⟨z,y,xs,r,o,es,ep,h1,h2,h3,h4,h5⟩:=(show qaV P w H h a (.dT kvs) from qjI ok e)
 refine ⟨z,y,xs,r,o,es,ep,h1,h2,h3,h4,fun x hx=>?_,h5⟩
 have all:∀ {l:List (List Key × V)} {m:List (List Key × Addr × Value)},KT H l m->∀ x∈m,(tupleKind (qaF P w)).is h x.1 x.2.1:=by
  intro l m q
  induction q with
  | nil=>intro x hx; exact nomatch hx
  | @cons p q ps qs hq t ih =>
   intro x hx
   rcases List.mem_cons.mp hx with e | hx
   ·subst e
    exact qev ok (by rw [<- hq.1]; exact hq.2.1)
   ·exact ih x hx
 exact all r x hx
theorem qlM {kvs:List (List Key × V)}(ok:HOk P w H h)(e:H a=some (.dT kvs)):kvs.length≤sizeLine/\(a == sysModules)=false /\
  ∃ xs,KT H kvs xs/\h.DictOfH (tupleKind (qaF P w)) a xs:=qhI ok (.inl e)
end
def DGet (H:Hp)(a:Addr)(y:V)(r:Option V):Prop :=
 (∃ kvs k,Rd H a (.dK kvs)/\y=kV k/\r=valV kvs k)\/∃ kvs k b,Rd H a (.dT kvs)/\y = .ref b/\H b=some (.tup (k.map kV))/\r=valV kvs k
def DPut (H:Hp)(a:Addr)(y v:V)(H':Hp):Prop :=
 (∃ kvs k,H a=some (.dK kvs)/\y=kV k/\kvs.length < sizeLine/\H'=upd H a (.dK (putK kvs k v))) \/
 ∃ kvs k b,H a=some (.dT kvs)/\y = .ref b/\H b=some (.tup (k.map kV))/\kvs.length < sizeLine/\H'=upd H a (.dT (putK kvs k v))
theorem DGet.k {H:Hp}{a:Addr}{kvs:List (Key × V)}{k:Key}(e:H a=some (.dK kvs)):DGet H a (kV k) (valV kvs k) := .inl ⟨kvs,k,.inl e,rfl,rfl⟩
theorem DGet.t {H:Hp}{a b:Addr}{kvs:List (List Key × V)}{k:List Key}(e:H a=some (.dT kvs))(eb:H b=some (.tup (k.map kV))):DGet H a (.ref b) (valV kvs k) := .inr ⟨kvs,k,b,.inl e,rfl,eb,rfl⟩
theorem DPut.k {H:Hp}{a:Addr}{kvs:List (Key × V)}{k:Key}{v:V}(e:H a=some (.dK kvs))(hl:kvs.length < sizeLine):DPut H a (kV k) v (upd H a (.dK (putK kvs k v))) := .inl ⟨kvs,k,e,rfl,hl,rfl⟩
theorem DPut.t {H:Hp}{a b:Addr}{kvs:List (List Key × V)}{k:List Key}{v:V}(e:H a=some (.dT kvs))(eb:H b=some (.tup (k.map kV)))(hl:kvs.length < sizeLine) :
  DPut H a (.ref b) v (upd H a (.dT (putK kvs k v))) := .inr ⟨kvs,k,b,e,rfl,eb,hl,rfl⟩
section
variable {X:Cx}{pins:List (Addr × Obj)}{σ:St}{H:Hp}{s:Shared}{a:Addr}{y v:V}{u r:Value}{o:Option V}{A:Around}{E:Value->Shared->Prop}
theorem Inv.big (I:Inv X pins σ H s):sysModules < s.heap.objs.size:=by
 have h:mainGlobals < s.heap.objs.size:=(I.mod.glob.keeps I.bk).lt
 exact Nat.lt_trans (by decide) h
theorem qhR {Q:Value->Shared->Prop}(hu:A.units + 1 < cLine)(I:Inv X pins σ H s)(g:DGet H a y (some v))(ry:RelV y u)(h:∀ w' s',Inv X pins σ H s'->RelV v w'->Q w' s') :
  wpAny (model X.prog X.w) A (getItem (.ref a) u) Q E s:=by
 rcases g with ⟨kvs,k,e,ey,l⟩ | ⟨kvs,k,b,e,ey,eb,l⟩
 ·subst ey
  obtain ⟨z,hd,vs,rel,dd⟩:=qhL I.hok e
  obtain ⟨w',hw,rw'⟩:=RelO.some_of (v:=v) (o:=valueAt vs k) (by rw [l]; exact rel.val k)
  exact wpAny_getItem_of (qhs ry) dd.mapOf hw (h w' _ (I.tok _) rw')
 ·subst ey
  cases (show u=Value.ref b from ry)
  obtain ⟨z,hd,xs,rel,dd⟩:=qhI I.hok e
  obtain ⟨w',hw,rw'⟩:=RelO.some_of (v:=v) (o:=(atKey xs k).map (·.2)) (by rw [l]; exact rel.val k)
  obtain ⟨p,hp,hp2⟩:=Option.map_eq_some_iff.mp hw
  refine wpAny_getItem_heap (tupleKind_room_in1 hu) (qev I.hok eb) dd hp ?_
  rw [hp2]
  exact h w' _ (I.tok _) rw'
theorem qd4 {h':Heap}{t':Nat}{ob:HO}(I:Inv X pins σ H s)(mu:Mut (H a))(hs:Heap.SameBut a s.heap h')(he:∃ q,h'.get? a=some q)(new:qaV X.prog X.w (upd H a ob) h' a ob) :
  Inv X pins σ (upd H a ob) { s with heap:=h',toks:=t' } :=
 I.write (x:=a) (e:=a) mu (.inl rfl) (fun b q hb z=>(hs.2 b hb).trans z) he new
theorem qjn {P:Program}{w:World}{H':Hp}{h':Heap}{kvs:List (Key × V)}{vs:List (Key × Value)}(z:kvs.length≤sizeLine)(hd:(a == sysModules)=false)(rel:KV kvs vs)(dd:h'.DictOf (qaF P w) a vs) :
  qaV P w H' h' a (.dK kvs):=⟨z,hd,vs,rel,dd⟩
theorem qhQ {H':Hp}{Q:Unit->Shared->Prop}(hu:A.units + 1 < cLine)(I:Inv X pins σ H s)(g:DPut H a y v H')(ry:RelV y u)(rv:RelV v r)(h:∀ s',Inv X pins σ H' s'->Q () s') :
  wpAny (model X.prog X.w) A (setItem (.ref a) u r) Q E s:=by
 rcases g with ⟨kvs,k,e,ey,l,eH⟩ | ⟨kvs,k,b,e,ey,eb,l,eH⟩
 ·subst ey eH
  obtain ⟨z,hd,vs,rel,dd⟩:=qlO I.hok e
  have hz:vs.length≤sizeLine:=by rw [<- rel.length]; exact z
  have hl:(putK kvs k v).length≤sizeLine:=by have:=qbC kvs k v; omega
  refine wpAny_setItem_pairs (hsz:=hz) (qhs ry) dd fun h' dd' hs=>h _ ?_
  have he:∃ q,h'.get? a=some q:=let ⟨q,_,_,hq,_⟩:=dd'; ⟨q,hq⟩
  exact qd4 I (by rw [e]; exact True.intro) hs he (qjn hl hd (rel.put k rv) dd')
 ·subst ey eH
  cases (show u=Value.ref b from ry)
  obtain ⟨z,hd,xs,rel,dd⟩:=qlM I.hok e
  have hz:xs.length≤sizeLine:=by rw [<- Paired.length rel]; exact z
  have hl:(putK kvs k v).length≤sizeLine:=by have:=qbC kvs k v; omega
  refine wpAny_setItem_heap (hsz:=hz) (tupleKind_room_in1 hu) (qev I.hok eb) dd fun h' dd' hs=>h _ ?_
  obtain ⟨q,es,ep,hq,h2,h3,h4,_,h5⟩:=dd'
  refine qd4 I (by rw [e]; exact True.intro) hs ⟨q,hq⟩ ⟨hl,hd,_,(rel.put k eb rv).keeps fun c ys ec=>?_,q,es,ep,hq,h2,h3,h4,h5⟩
  rw [uE (qiD ec e (fun z=>nomatch z))]
  exact ec
end
def NoSl (i:Expr):Prop:=∀ ov iv,subscripted i false ov iv=operate [ov,iv] (getItem ov iv)
theorem qjA {prog:Program}{w:World}{A:Around}{E:Value->Shared->Prop}{s:Shared}{env:Env}{value slice:Expr}{pos:Pos}{T id:String}{Q:Value->Shared->Prop}
  (hl:typeLookup (.type T) "__getitem__" = pure (some (.builtin id))) (hs:NoSl slice)
  (h:wpAny (model prog w) A (eval value env) (fun o s₁=>wpAny (model prog w) A (eval slice env) (fun i s₂=>s₂.TypeIs o T/\wpAny (model prog w) A (getItem o i) Q E s₂) E s₁) E s) :
  wpAny (model prog w) A (eval (.Subscript value slice pos) env) Q E s:=by
 refine Subscript_ (wpAny_mono h (fun o s₁ h₁=>wpAny_mono h₁ (fun i s₂ h₂=>?_) fun _ _ x=>x) fun _ _ x=>x)
 obtain ⟨hT,h₂⟩:=h₂
 unfold subscriptTail
 refine wpAny_bind ?_
 rw [getitemInPython_of_ne hT.not_modules]
 refine wpAny_bind (wpAny_specialOf hT hl ?_)
 have fin:wpAny (model prog w) A (subscripted slice false o i) (fun r s₃=>wpAny (model prog w) A (letTemporaryGo value o r >>= fun _=>pure r) Q E s₃) E s₂:=by
  rw [hs o i]
  exact wpAny_operating (wpAny_mono h₂ (fun r s₃ h₃=>wpAny_bind (wpAny_letTemporaryGo (wpAny_pure h₃))) fun _ _ x=>x)
 first
  | exact wpAny_pure (wpAny_bind fin)
  | exact wpAny_bind (wpAny_pure (wpAny_bind fin))
  | exact wpAny_bind fin
theorem qfn {X:Cx}{pins:List (Addr × Obj)}{σ:St}{H:Hp}{s:Shared}{a:Addr}{y:V}{o:Option V}(I:Inv X pins σ H s)(g:DGet H a y o):s.TypeIs (.ref a) "dict" := by
 rcases g with ⟨kvs,k,e,_,_⟩ | ⟨kvs,k,b,e,_,_,_⟩
 ·obtain ⟨_,_,vs,_,dd⟩:=qhL I.hok e
  exact dd.typeIs
 ·obtain ⟨_,_,xs,_,dd⟩:=qhI I.hok e
  exact dd.typeIs
def tDGet (td ty:TE):TE:=fun σ H Q=>td σ H fun x H1=>ty σ H1 fun y H2=>∃ a v,x = .ref a/\DGet H2 a y (some v)/\Q v H2
def sDPut (td ty tv:TE):TS:=fun D σ H=>tv σ H fun v H1=>td σ H1 fun x H2=>ty σ H2 fun y H3=>∃ a H4,x = .ref a/\DPut H3 a y v H4/\D.nx σ H4
section
variable {X:Cx}{o i e value:Expr}{pos pos' tpos:Pos}{td ty tv:TE}
theorem qbz (hu:X.A.units + 1 < cLine)(ho:PE X o td)(hi:PE X i ty)(hs:NoSl i):PE X (.Subscript o i pos) (tDGet td ty):=by
 intro pins s σ H Q I h
 refine qjA PySem.F.slot_dict_getitem.lookup hs (thn (ho pins s σ H _ I h) fun u s1 ⟨x,H1,I1,rx,q1⟩=>thn (hi pins s1 σ H1 _ I1 q1) fun iv s2 ⟨y,H2,I2,ry,a,v,ex,g,q2⟩=>?_)
 subst ex
 obtain rfl:u=Value.ref a:=rx
 exact ⟨qfn I2 g,qhR hu I2 g ry fun w' s3 I3 rw'=>⟨v,H2,I3,rw',q2⟩⟩
theorem qdS (hu:X.A.units + 1 < cLine)(ho:PE X o td)(hi:PE X i ty)(hv:PE X value tv)(hs:swapsWith value (some (.Subscript o i pos')) pos.line X.env=pure false) :
  PS X (.Assign [.Subscript o i pos'] value pos) (sDPut td ty tv):=by
 intro pins s σ H D I h
 refine wpAny_Assign_Subscript (thn (hv pins s σ H _ I h) fun r s1 ⟨v,H1,I1,rv,q1⟩=>thn (ho pins s1 σ H1 _ I1 q1) fun u s2 ⟨x,H2,I2,rx,q2⟩=>thn (hi pins s2 σ H2 _ I2 q2) fun iv s3 ⟨y,H3,I3,ry,a,H4,ex,g,q3⟩=>?_) hs
 subst ex
 obtain rfl:u=Value.ref a:=rx
 exact qhQ hu I3 g ry rv fun s4 I4=>⟨σ,H4,I4,q3⟩
end
theorem qfU {P:Program}{w:World}{H:Hp}(h:Heap)(hb:sysModules < h.objs.size):qaV P w H (h.push { cls := .type "dict",data := .dict #[] }) h.objs.size (.dK []) :=
 ⟨Nat.zero_le _,beq_eq_false_iff_ne.mpr (Ne.symm (Nat.ne_of_lt hb)),[],.nil,Heap.DictOf.new h⟩
theorem qfT {P:Program}{w:World}{H:Hp}(h:Heap)(hb:sysModules < h.objs.size):qaV P w H (h.push { cls := .type "dict",data := .dict #[] }) h.objs.size (.dT []) :=
 ⟨Nat.zero_le _,beq_eq_false_iff_ne.mpr (Ne.symm (Nat.ne_of_lt hb)),[],.nil,_,#[],0,Heap.get?_push_size _ rfl,⟨rfl,rfl,rfl⟩,rfl,rfl,List.nodup_nil⟩
def qkT:TE:=fun _ H Q=>∀ p,H p=none->Q (.ref p) (upd H p (.dK []))
def qkS:TE:=fun _ H Q=>∀ p,H p=none->Q (.ref p) (upd H p (.dT []))
section
variable {X:Cx}{pos:Pos}
theorem qiw:PE X (.Dict [] [] pos) qkT:=fun pins s σ H Q I h =>
 wpAny_Dict_empty ⟨.ref s.heap.objs.size,_,I.laid (a:=s.heap.objs.size) (o := .dK []) (t':=s.toks) (fun _ _ q=>Heap.get?_push_of_some _ q) (Nat.le_refl _) (qfU s.heap I.big),rfl,h _ (I.hok.fresh (Nat.le_refl _))⟩
theorem qiv:PE X (.Dict [] [] pos) qkS:=fun pins s σ H Q I h =>
 wpAny_Dict_empty ⟨.ref s.heap.objs.size,_,I.laid (a:=s.heap.objs.size) (o := .dT []) (t':=s.toks) (fun _ _ q=>Heap.get?_push_of_some _ q) (Nat.le_refl _) (qfT s.heap I.big),rfl,h _ (I.hok.fresh (Nat.le_refl _))⟩
end
def qgG:List (TE × TE)->St->Hp->(List (V × V)->Hp->Prop)->Prop
 | [],_,H,Q=>Q [] H
 | (tk,tv) :: r,σ,H,Q=>tk σ H fun x H1=>tv σ H1 fun y H2=>qgG r σ H2 fun ps H3=>Q ((x,y) :: ps) H3
abbrev VV:List (V × V)->List (Value × Value)->Prop:=Paired fun p q=>RelV p.1 q.1/\RelV p.2 q.2
def PPs (X:Cx)(pos:Pos)(keys:List (Option Expr))(values:List Expr)(trs:List (TE × TE)):Prop :=
 ∀ (pins:List (Addr × Obj)) (s:Shared) (σ:St) (H:Hp) (Q:List (V × V)->Hp->Prop),Inv X pins σ H s->qgG trs σ H Q ->
  wpAny (model X.prog X.w) X.A (evalPairs (pairTrees keys values X.env pos)) (fun vs s'=>∃ ps H',Inv X pins σ H' s'/\VV ps vs/\Q ps H') X.xe s
theorem qjR {X:Cx}{pos:Pos}:PPs X pos [] [] []:=fun pins s σ H Q I h=>pairTrees_nil_walk ⟨[],H,I,.nil,h⟩
theorem qdT {X:Cx}{pos:Pos}{k v:Expr}{ks:List (Option Expr)}{vs:List Expr}{tk tv:TE}{trs:List (TE × TE)}(hk:PE X k tk)(hv:PE X v tv)(hr:PPs X pos ks vs trs) :
  PPs X pos (some k :: ks) (v :: vs) ((tk,tv) :: trs):=fun pins s σ H Q I h =>
 pairTrees_cons_walk (thn (hk pins s σ H _ I h) fun u s1 ⟨x,H1,I1,rx,q1⟩=>thn (hv pins s1 σ H1 _ I1 q1) fun w2 s2 ⟨y,H2,I2,ry,q2⟩ =>
  thn (hr pins s2 σ H2 _ I2 q2) fun ws s3 ⟨ps,H3,I3,rel,q3⟩=>⟨(x,y) :: ps,H3,I3,.cons ⟨rx,ry⟩ rel,q3⟩)
def qet (kvs more:List (Key × V)):List (Key × V):=more.foldl (fun acc kv=>putK acc kv.1 kv.2) kvs
theorem KV.merge:∀ {more:List (Key × V)} {rs:List (Key × Value)} {kvs:List (Key × V)} {vs:List (Key × Value)},KV more rs->KV kvs vs->KV (qet kvs more) (merged vs rs):=by
 intro more rs kvs vs r
 unfold KV at r
 induction r generalizing kvs vs with
 | nil=>intro q; exact q
 | @cons p q ps qs h t ih =>
  intro r0
  have e:KV (putK kvs p.1 p.2) (stored vs q.1 q.2):=by
   have:=r0.put p.1 h.2
   rw [<- h.1]; exact this
  exact ih e
theorem qcg:∀ (more kvs:List (Key × V)),(qet kvs more).length≤kvs.length + more.length
 | [],kvs=>by show kvs.length≤kvs.length + 0; omega
 | p :: r,kvs=>by
  have h1:=qcg r (putK kvs p.1 p.2)
  have h2:=qbC kvs p.1 p.2
  show (qet (putK kvs p.1 p.2) r).length≤_
  rw [List.length_cons]; omega
theorem qdE {P:Program}{w:World}:∀ {kvs:List (Key × V)} {ws:List (Value × Value)},VV (kvs.map fun kv=>(kV kv.1,kv.2)) ws->∃ rs,Carries (qaF P w) ws rs/\KV kvs rs
 | [],_,r=>by rw [List.map_nil] at r; cases r; exact ⟨[],True.intro,.nil⟩
 | p :: kvs,_,r=>by
  rw [List.map_cons] at r
  cases r with
  | @cons a b as bs h t =>
   obtain ⟨rs,c,q⟩:=qdE (P:=P) (w:=w) t
   obtain ⟨b1,b2⟩:=b
   exact ⟨(p.1,b2) :: rs,⟨qhs h.1,rfl,c⟩,.cons ⟨rfl,h.2⟩ q⟩
def tDisp (trs:List (TE × TE)):TE:=fun σ H Q=>∀ p,H p=none->qgG trs σ (upd H p (.dK [])) fun ps H2=>H2 p=some (.dK [])/\∃ kvs:List (Key × V),ps=kvs.map (fun kv=>(kV kv.1,kv.2))/\kvs.length≤15/\Q (.ref p) (upd H2 p (.dK (qet [] kvs)))
theorem qjY {X:Cx}{pos:Pos}{keys:List (Option Expr)}{values:List Expr}{trs:List (TE × TE)}(h:PPs X pos keys values trs)(hall:keys.all (·.isSome)=true)(hl:keys.length=values.length)(h0:keys≠[])
  (h15:keys.length≤15):PE X (.Dict keys values pos) (tDisp trs):=by
 intro pins s σ H Q I q
 have hn:=I.hok.fresh (Nat.le_refl s.heap.objs.size)
 have I1:=I.laid (a:=s.heap.objs.size) (o := .dK []) (h':=s.heap.push { cls := .type "dict",data := .dict #[] }) (t':=s.toks) (fun _ _ q=>Heap.get?_push_of_some _ q) (Nat.le_refl _) (qfU s.heap I.big)
 refine wpAny_Dict_walk (knd:=qaF X.prog X.w) hall hl h0 h15 (thn (h pins _ σ _ _ I1 (q _ hn)) fun ws s2 ⟨ps,H2,I2,rel,e,kvs,ep,lk,q2⟩=>?_)
 subst ep
 obtain ⟨rs,c,rk⟩:=qdE (P:=X.prog) (w:=X.w) rel
 obtain ⟨z,hd,vs0,r0,dd⟩:=qlO I2.hok e
 cases r0
 refine ⟨rs,c,dd,fun h' dd' hs=>⟨.ref s.heap.objs.size,_,?_,rfl,q2⟩⟩
 have hz:(qet [] kvs).length≤sizeLine:=by
  have h1:=qcg kvs []
  rw [List.length_nil] at h1
  rw [sizeLine_eq]; omega
 have he:∃ q,h'.get? s.heap.objs.size=some q:=let ⟨q,_,_,hq,_⟩:=dd'; ⟨q,hq⟩
 exact qd4 I2 (by rw [e]; exact True.intro) hs he (qjn hz hd (rk.merge .nil) dd')
structure M2 (X:Cx)(o:Expr)(m:Str)(apos:Pos)(e f:Expr)(cpos:Pos):Prop where
 base:attributeBase o m X.env (eval o X.env)=eval o X.env
 few:((backTo cpos (starEach [e,f] X.env)).all (fun x=>!x.1) && (backToKw cpos (keywordEach [] X.env)).all (fun x=>x.1.isSome)
  && decide (([e,f]:List Expr).length + ([]:List Keyword).length + (if ([]:List Keyword).isEmpty then 0 else 1) < 30))=true
 line:(apos.endLine == cpos.line)=true
 trees:backTo cpos (starEach [e,f] X.env)=[(false,eval e X.env),(false,eval f X.env)]
def IsD (H:Hp)(a:Addr):Prop:=(∃ kvs,Rd H a (.dK kvs))\/∃ kvs,Rd H a (.dT kvs)
theorem qlA {X:Cx}{pins:List (Addr × Obj)}{σ:St}{H:Hp}{s:Shared}{a:Addr}(I:Inv X pins σ H s)(d:IsD H a) :
  s.TypeIs (.ref a) "dict" /\ (∀ b,Value.ref a = .ref b->∃ ob,s.heap.get? b=some ob/\ob.dict=none)/\(a == sysModules)=false:=by
 rcases d with ⟨kvs,e⟩ | ⟨kvs,e⟩
 ·obtain ⟨_,hd,vs,_,dd⟩:=qhL I.hok e
  refine ⟨dd.typeIs,fun b q=>?_,hd⟩
  cases q
  obtain ⟨ob,_,_,h1,h2,_⟩:=dd
  exact ⟨ob,h1,h2.2.1⟩
 ·obtain ⟨_,hd,xs,_,dd⟩:=qhI I.hok e
  refine ⟨dd.typeIs,fun b q=>?_,hd⟩
  cases q
  obtain ⟨ob,_,_,h1,h2,_⟩:=dd
  exact ⟨ob,h1,h2.2.1⟩
section
variable {X:Cx}{pins:List (Addr × Obj)}{σ:St}{H:Hp}{s:Shared}{a:Addr}{y d:V}{u r:Value}{o:Option V}{A:Around}{E:Value->Shared->Prop}
theorem qlP {Q:Value->Shared->Prop}(hu:A.units + 1 < cLine)(I:Inv X pins σ H s)(g:DGet H a y o)(ry:RelV y u)(rd:RelV d r)(h:∀ w' s',Inv X pins σ H s'->RelV (o.getD d) w'->Q w' s') :
  wpAny (model X.prog X.w) A (call (.builtin "dict.get") [.ref a,u,r]) Q E s:=by
 rcases g with ⟨kvs,k,e,ey,l⟩ | ⟨kvs,k,b,e,ey,eb,l⟩
 ·subst ey
  obtain ⟨z,hd,vs,rel,dd⟩:=qhL I.hok e
  refine call_meetsIn PySem.F.slot_dict_get dd.typeIs PySem.F.entry_dict_get (PySem.F.args_dict_get_3 _ _ _) (meets_dict_get_default (qaF X.prog X.w) a (qhs ry) hd r) ⟨_,dd.mapOf,h _ _ (I.tok _) ?_⟩
  rw [l]
  exact (rel.val k).getD rd
 ·subst ey
  cases (show u=Value.ref b from ry)
  obtain ⟨z,hd,xs,rel,dd⟩:=qhI I.hok e
  refine call_meetsIn PySem.F.slot_dict_get dd.typeIs PySem.F.entry_dict_get (PySem.F.args_dict_get_3 _ _ _) (meetsH_dict_get_default (tupleKind (qaF X.prog X.w)) a b hd r) ⟨tupleKind_room_in1 hu,k,xs,qev I.hok eb,dd,h _ _ (I.tok _) ?_⟩
  rw [l]
  exact (rel.val k).getD rd
end
def qkU (td ty tx:TE):TE:=fun σ H Q=>td σ H fun x H1=>∃ a,x = .ref a/\IsD H1 a/\ty σ H1 fun y H2=>tx σ H2 fun z H3=>∃ o,DGet H3 a y o/\Q (o.getD z) H3
section
variable {X:Cx}{o e f:Expr}{apos cpos:Pos}{td ty tx:TE}
theorem qix (hu:X.A.units + 1 < cLine)(ho:PE X o td)(he:PE X e ty)(hf:PE X f tx)(m:M2 X o "get" apos e f cpos):PE X (.Call (.Attribute o "get" apos) [e,f] [] cpos) (qkU td ty tx):=by
 intro pins s σ H Q I h
 refine wpAny_Call_method m.base m.few m.line PySem.F.plainAttrs_dict PySem.F.slot_dict_get PySem.F.type_dict_get (thn (ho pins s σ H _ I h) fun u s1 ⟨x,H1,I1,rx,a,ex,d,q1⟩=>?_)
 subst ex
 obtain rfl:u=Value.ref a:=rx
 obtain ⟨t1,t2,_⟩:=qlA I1 d
 refine ⟨t1,t2,?_⟩
 rw [m.trees]
 refine Calls.callWith_builtin rfl (Calls.evalArgs_plain (Calls.spliced_cons (thn (he pins s1 σ H1 _ I1 q1) fun iv s2 ⟨y,H2,I2,ry,q2⟩ =>
  Calls.spliced_cons (thn (hf pins s2 σ H2 _ I2 q2) fun fv s3 ⟨z,H3,I3,rz,ov,g,q3⟩=>Calls.spliced_nil ?_))))
 exact qlP hu I3 g ry rz fun w' s4 I4 rw'=>⟨_,H3,I4,rw',q3⟩
end
end L2
namespace Att
open PySem PySem.W PySem.Calls PyProof.Rows
theorem qdf {P:Params}{h:Heap}:∀ (ns:List Int) (vs:List Value),WellAll P h vs (ns.map WData.int)->IntsAre vs ns:=by
 intro ns
 induction ns with
 | nil =>
  intro vs w
  rw [List.map_nil] at w
  cases w
  exact .nil
 | cons n ns ih =>
  intro vs w
  rw [List.map_cons] at w
  cases w with
  | cons a b =>
   cases a
   exact .cons _ _ (ih _ b)
theorem qgQ {l:OpenLaw}{n:Nat}(hn:l.most=some n){P:Params}{h:Heap}{args:List WData}{vals:List Value}
  (hpre:l.row.toRowW.claim.pre args=true) (hwl:WellAll P h vals args) :
  ∃ a vs ns,vals=[Value.ref a]/\args=[WData.list (ns.map WData.int)]/\h.get? a=some { cls := .type "list",data := .seq vs.toArray }/\IntsAre vs ns/\ns.length≤n:=by
 have hsh:WShape.hasAll [] args [.list .int]=true:=(pre_splitW hpre).1
 have hc:l.pre.holds [] { args:=args }=true:=(pre_splitW hpre).2
 obtain ⟨d,r,rfl,h1,h2⟩:=hasAllW_cons hsh
 obtain rfl:=hasAllW_nil h2
 obtain ⟨xs,rfl,h3⟩:=hasW_list h1
 obtain ⟨ns,rfl⟩:=items_int h3
 have hlen:ns.length≤n:=by
  unfold OpenLaw.pre at hc
  have h4:(WTm.not (.lt (.lit (.int (n:Int))) (.len (.arg 0)))).holds [] { args:=[.list (ns.map .int)] }=true:=by
   have h4:=(holds_andW hc).1
   rw [hn] at h4
   exact h4
  have h5:=condW_of h4 (w_not (w_lt w_lit (w_len_list (w_arg rfl))))
  rw [List.length_map] at h5
  refine Nat.le_of_not_lt fun q=>?_
  have q':(n:Int) < ((ns.length:Nat):Int):=by omega
  first
   | (rw [decide_eq_true q'] at h5; exact absurd h5 (by decide))
   | (simp at h5; omega)
 cases hwl with
 | cons w1 w2 =>
  cases w2
  cases w1 with
  | list ho hall=>exact ⟨_,_,ns,rfl,rfl,ho,qdf ns _ hall,hlen⟩
theorem qgY (l:OpenLaw)(args:List WData):l.row.toRowW.claim.post args (.bool true) args=true :=
 postW_of (r:=l.row.toRowW) (X:=(true == true))
  (show WShape.has [] (.bool true) .bool=true by first | rfl | decide | simp [WShape.has,WShape.arms,WShape.armsAll])
  (show (WTm.eq .res (.lit (.bool true))).value [] { args:=args,res:=some (.bool true),after:=args }=some (.bool (true == true)) from w_eq_bool (w_res rfl) w_lit) rfl
theorem attach_call {l:OpenLaw}{n:Nat}{q:Program}{loose:List Str}{XP:(Str->Option Value)->Heap->Prop}{YP:World->Heap->Prop}{d:DefRec}
  (hn:l.most=some n) (hdf:d.params.defaults=[])
  (call:∀ (w:World) (s₀ s₁:Shared) (mg mb:Str->Option Value) (fa:Addr) (o:Obj) (pm cd doc:Value) (a:Addr) (vs:List Value) (ns:List Int),
    Ground q loose [] XP w s₀ mg mb s₁.heap->YP w s₁.heap ->
    s₁.heap.get? fa=some o->o.data = .func (docDef d.name d.params d.body d.scope pm cd doc)->s₁.heap.CodeRec cd d.name->mg d.name=some (.ref fa) ->
    s₁.heap.get? a=some { cls := .type "list",data := .seq vs.toArray }->IntsAre vs ns->ns.length≤n->s₁.gens=#[] ->
    codeAny (model l.prog w) callerA (.call (.ref fa) ⟨[.ref a],[]⟩) (fun r s'=>r = .ok (.ret (.bool true))/\OldK s₁.heap s'.heap/\s'.os=s₁.os/\AllBare s'.gens) s₁) :
  WalkO q loose XP YP l.row.toRowW d [] (fun f vs=>PySem.call f vs):=by
 intro w s₀ s₁ mg mb G Y fa o pm cd doc dV kV ho hd hcd hD hmg hg args vals as hpre hlay hrd hwl hlo
 obtain rfl:dV = .none:=Dflts.none hD hdf
 obtain rfl:kV = .none:=Dflts.noKw hD
 obtain ⟨a,vs,ns,rfl,rfl,hobj,hints,hlen⟩:=qgQ hn hpre hwl
 refine enter_call (codeAny_mono (call w s₀ s₁ mg mb fa o pm cd doc a vs ns G Y ho (fd_plain hd) hcd hmg hobj hints hlen hg) fun r s' hq=>?_)
 obtain ⟨rfl,h2,h3,h4⟩:=hq
 exact ⟨.inl ⟨.bool true,.bool true,[],rfl,fun _=>rfl,.bool true,qgY l _,fun _=>⟨List.Pairwise.nil,fun _ hm=>(nomatch hm)⟩⟩,h2,h3,h4⟩
end Att
namespace L2
open PySem PySem.Spec PyProof.Rows
theorem qcU:∀ {vs:List Value} {ns:List Int},IntsAre vs ns->Vals (ns.map V.int) vs
 | _,_,.nil => .nil
 | _,_,.cons n t h => .cons ⟨t,rfl⟩ (qcU h)
def Only (H:Hp):Prop:=∀ b,H b=none\/∃ o xs,H b=some (.frz o (.lst xs))
theorem qiG {P:Program}{w:World}{K:PySem.W.Frag}{mg mb:Str->Option Value}{CX:CXT}{k:Nat}{fa a:Addr}{fd:FuncData}{x:Str}{sp:Sp}{s₁:Shared}{vs:List Value}{ns:List Int}
  (KX:K.In s₁.heap) (hns:s₁.heap.Ns mainGlobals mg) (hb:s₁.heap.Ns builtinsNs mb) (hbb:∀ x:Str,x ≠ "__name__" -> mb x=bootBuiltins x) (hlim:s₁.heap.NoLimit) (hg:s₁.gens=#[])
  (ha:s₁.heap.get? a=some { cls := .type "list",data := .seq vs.toArray }) (hi:IntsAre vs ns) (hl:ns.length≤sizeLine) (hr:Room k callerA)
  (F:∀ base:Heap,K.In base->base.Ns mainGlobals mg->FnOk P w K mg base CX k fa fd [x] sp) (hbind:∀ (s:Shared) (u:Value),BindsTo s fd ⟨[u],[]⟩ [(x,u)])
  (hsp:∀ H:Hp,Only H->SqL K H a (ns.map V.int)->sp [.ref a] H (fun v _=>v = .bl true) fun _ _ _=>False)
  (hCX:∀ H e s',CX [] H s₁ (fun _ _ _=>False) e s'->False) :
  codeAny (model P w) callerA (.call (.ref fa) ⟨[.ref a],[]⟩) (fun r s'=>r = .ok (.ret (.bool true))/\OldK s₁.heap s'.heap/\s'.os=s₁.os/\AllBare s'.gens) s₁:=by
 have rv:=qcU hi
 have lenV:=hi.length
 have core:∀ H:Hp,Only H->SqL K H a (ns.map V.int)->HOk P w H s₁.heap->(∀ b,H b≠none->b=a)->(H a≠none->K.lookup a=none) ->
   codeAny (model P w) callerA (.call (.ref fa) ⟨[.ref a],[]⟩) (fun r s'=>r = .ok (.ret (.bool true))/\OldK s₁.heap s'.heap/\s'.os=s₁.os/\AllBare s'.gens) s₁:=by
  intro H hO hS hok hA hK
  have base_of:∀ {b:Addr} {o:Obj},s₁.heap.get? b=some o->H b=none->(hidT s₁.heap H).get? b=some o:=fun e n=>qiM e n
  have noA:∀ {b:Addr} {o:Obj} {es:Array DictEntry} {ep:Nat},s₁.heap.get? b=some o->o.data = .dict es ep->H b=none:=fun {b o es ep} e d=>by
   cases q:H b with
   | none=>rfl
   | some u =>
    have e':b=a:=hA b (by rw [q]; simp)
    subst e'
    rw [ha] at e; cases e
    have d':Data.seq vs.toArray _=Data.dict es ep:=d
    cases d'
  have nsK:∀ {b:Addr} {m:Str->Option Value},s₁.heap.Ns b m->(hidT s₁.heap H).Ns b m:=fun {b m} ⟨o,es,ep,e,d,r⟩=>⟨o,es,ep,base_of e (noA e d),d,r⟩
  have hKb:K.In (hidT s₁.heap H):=fun b o e=>base_of (KX b o e) (by
   cases q:H b with
   | none=>rfl
   | some u =>
    have e':b=a:=hA b (by rw [q]; simp)
    subst e'
    rw [hK (by rw [q]; simp)] at e; cases e)
  have hM:Mod K mg (hidT s₁.heap H):=⟨hKb,nsK hns,⟨mb,nsK hb,hbb⟩,let ⟨mc,h1,h2⟩:=hlim; ⟨mc,nsK h1,h2⟩⟩
  have e0:Env0 P w K mg (hidT s₁.heap H) callerA [] s₁ H:=⟨rfl,hM,fun b o e=>qke e,Nat.le_of_eq (qhy _ _),trivial,fun b hb=>absurd (show b∈([]:List Addr) from hb) (by simp),hok,.of_eq hg⟩
  refine codeAny_mono ((F _ hKb (nsK hns)).run callerA [] s₁ H ⟨[.ref a],[]⟩ [.ref a] [.ref a] _ _ hr e0 (hbind s₁ (.ref a)) (.cons rfl .nil) (hsp H hO hS)) fun r s' h=>?_
  cases r with
  | error e=>exact (hCX H e s' h).elim
  | ok fl =>
   cases fl with
   | next=>exact False.elim h
   | brk=>exact False.elim h
   | cont=>exact False.elim h
   | ret u =>
    obtain ⟨v,H',os,bare,un,hok',r',q⟩:=h
    have q':v = .bl true:=q
    subst q'
    obtain rfl:u=Value.bool true:=r'
    refine ⟨rfl,OldK.of_keep fun b o e=>?_,os,bare⟩
    cases q:H b with
    | none=>exact un.keep b o e q (by intro z; exact absurd (show b∈([]:List Addr) from z) (by simp)) (by simp)
    | some u =>
     rcases hO b with z | ⟨ob,xs,z⟩
     ·rw [q] at z; cases z
     ·have z2:=un.frzs b ob _ z
      obtain ⟨e1,_⟩:=hok b _ z
      obtain ⟨e2,_⟩:=hok' b _ z2
      rw [e] at e1; cases e1
      exact e2
 cases hk:K.lookup a with
 | some o =>
  have e:=KX a o hk
  rw [ha] at e
  cases e
  refine core (fun _=>none) (fun _ => .inl rfl) (.inr ⟨_,vs.toArray,_,hk,rfl,rfl,rfl,by rw [List.size_toArray,lenV]; exact hl,by simpa using rv⟩) (fun b u z=>by have z':(none:Option HO)=some u:=z; cases z') (fun b z=>absurd rfl z) fun z=>absurd rfl z
 | none =>
  refine core (fun b=>if b=a then some (.frz { cls := .type "list",data := .seq vs.toArray } (.lst (ns.map V.int))) else none) (fun b=>?_) (.inl (.inr ⟨{ cls := .type "list",data := .seq vs.toArray },if_pos rfl⟩)) (fun b u z=>?_) (fun b z=>?_) fun _=>hk
  ·by_cases hb:b=a
   ·exact .inr ⟨_,_,if_pos hb⟩
   ·exact .inl (if_neg hb)
  ·by_cases hb:b=a
   ·have z':=(if_pos hb).symm.trans z
    cases z'
    subst hb
    exact ⟨ha,by rw [List.length_map]; exact hl,vs,_,rv,ha⟩
   ·have z':=(if_neg hb).symm.trans z
    cases z'
  ·by_cases hb:b=a
   ·exact hb
   ·exact absurd (if_neg hb) z
abbrev KOf {K:PySem.W.Frag}{h:Heap}(_:K.In h):PySem.W.Frag:=K
theorem walk_of {l:PySem.W.OpenLaw}{n k:Nat}{q:Program}{loose:List Str}{XP:(Str->Option Value)->Heap->Prop}{YP:World->Heap->Prop}{d:DefRec}{K:Params->PySem.W.Frag}{CX:World->CXT}{sp:World->Sp}{x:Str}
  (hn:l.most=some n) (hn2:n≤sizeLine) (hdf:d.params.defaults=[]) (hr:Room k callerA)
  (hY:∀ (w:World) (h:Heap),YP w h->(K w.params).In h)
  (F:∀ (w:World) (mg:Str->Option Value) (fa:Addr) (h:Heap),(K w.params).In h->h.Ns mainGlobals mg->mg d.name=some (.ref fa) ->
    ∃ fd:FuncData,(∀ (s:Shared) (u:Value),BindsTo s fd ⟨[u],[]⟩ [(x,u)]) /\
     ∀ base:Heap,(K w.params).In base->base.Ns mainGlobals mg->FnOk l.prog w (K w.params) mg base (CX w) k fa fd [x] (sp w))
  (hsp:∀ (w:World) (H:Hp) (a:Addr) (ns:List Int),ns.length≤n->Only H->SqL (K w.params) H a (ns.map V.int)->sp w [.ref a] H (fun v _=>v = .bl true) fun _ _ _=>False)
  (hCX:∀ (w:World) (H:Hp) (s:Shared) (e:Value) (s':Shared),CX w [] H s (fun _ _ _=>False) e s'->False) :
  PySem.W.WalkO q loose XP YP l.row.toRowW d [] (fun f vs=>PySem.call f vs):=by
 refine Att.attach_call hn hdf fun w s₀ s₁ mg mb fa o pm cd doc a vs ns G Y ho hd hcd hmg hobj hints hlen hg=>?_
 have KX:=hY w _ Y
 obtain ⟨fd,hb,hF⟩:=F w mg fa _ KX G.T.g hmg
 exact qiG KX G.T.g G.T.b G.T.builtins G.T.nolimit hg hobj hints (Nat.le_trans hlen hn2) hr hF hb (fun H hO hS=>hsp w H a ns hlen hO hS) fun H e s'=>hCX w H s₁ e s'
end L2
/- THE LAST THEOREM (shape; LID,My.* are yours):
  My.Adr: a structure of the addresses that your layer names (classes,functions); My.Txt K t: a structure (Prop) of the equations over K;
  My.txt_mk:{K} {implicit addresses ..} (e1:nsIn K mainGlobals "law" = some (some (.ref f))) (e2:K.lookup f=some ⟨oc,od,.func (fnOf "law" "law" params body scope dV kV doc pm an cdv ct),sl⟩) (e3:codeIn K cdv "law" = true) ..:∃ t,My.Txt K t
(the tactic k_is has no namespace: write k_is) -/
namespace L2
open PySem PySem.Spec PyProof.Rows
def qbN (s:Stmt):Arguments:=match s with
 | .FunctionDef _ a _ _ _ _ _ _ _ _=>a
 | _=>{ posonlyargs:=[],args:=[],vararg:=none,kwonlyargs:=[],kw_defaults:=[],kwarg:=none,defaults:=[] }
def qbs (s:Stmt):List Stmt:=match s with
 | .FunctionDef _ _ b _ _ _ _ _ _ _=>b
 | _=>[]
def qad (s:Stmt):Scope:=match s with
 | .FunctionDef _ _ _ _ _ _ sc _ _ _=>sc
 | _=>{ kind := .function,names:=[],isGenerator:=false,isCoroutine:=false }
abbrev CX0:CXT:=fun _ _ _ _ _ _=>False
abbrev E0:XK:=fun _ _ _=>False
theorem pass0 {X:Cx}:qh4 CX0 X E0:=fun _ _ _ _ _ _ _ h=>h.elim
structure Fun (K:PySem.W.Frag)(x qual:Str)(st:Stmt)(f:Addr)(fd:FuncData):Prop where
 ex:∃ (oc:Value) (od:Option Addr) (kV doc pm:Value) (an:Option Addr) (cdv ct:Value) (osl:Array (Option Value)),
  fd=PySem.W.fnOf x qual (qbN st) (qbs st) (qad st) .none kV doc pm an cdv ct/\K.lookup f=some ⟨oc,od,.func fd,osl⟩/\PySem.W.codeIn K cdv qual=true
 kp:PySem.W.keepIn K (.ref f)=true
section
variable {P:Program}{w:World}{K:PySem.W.Frag}{mg:Str->Option Value}{base:Heap}
theorem Fun.ok {x qual:Str}{st:Stmt}{f:Addr}{fd:FuncData}{N ps:List Str}{k:Nat}{sp:Sp}(F:Fun K x qual st f fd)(S:qao N ps (qad st))(len:∀ vs H Q E,sp vs H Q E->vs.length=ps.length)
  (hbody:∀ (cdv:Value) (A:Around) (outer:List Env) (s:Shared) (H:Hp) (vs:List V) (Q:VK) (E:XK),Room k (A.deeper (envOfC qual (qad st) s.heap.objs.size f cdv))->sp vs H Q E ->
    ∃ t,PSs (cxOf CX0 P w K mg base N qual (qad st) f cdv A outer s H E).nox (qbs st) t/\t { nx:=fun _ H'=>Q .non H',rt:=Q } (start N vs) H):FnOk P w K mg base CX0 (k + 1) f fd ps sp:=by
 obtain ⟨oc,od,kV,doc,pm,an,cdv,ct,osl,rfl,lk,hcd⟩:=F.ex
 refine fn_of lk hcd S len fun A outer s H vs Q E hr hsp=>?_
 obtain ⟨t,h,q⟩:=hbody cdv A outer s H vs Q E hr hsp
 exact ⟨t,h.nox,q⟩
theorem Fun.binds {x qual:Str}{st:Stmt}{f:Addr}{fd:FuncData}{ps:List Str}(F:Fun K x qual st f fd)
  (h:∀ (kV doc pm:Value) (an:Option Addr) (cdv ct:Value) (us:List Value),us.length=ps.length->bindArgs (PySem.W.fnOf x qual (qbN st) (qbs st) (qad st) .none kV doc pm an cdv ct) ⟨us,[]⟩=pure (ps.zip us)):Binds K fd ps []:=by
 obtain ⟨oc,od,kV,doc,pm,an,cdv,ct,osl,rfl,lk,hcd⟩:=F.ex
 exact .all (h kV doc pm an cdv ct)
theorem qjk {x qual:Str}{st:Stmt}{f:Addr}{oc:Value}{od an:Option Addr}{osl:Array (Option Value)}{kV doc pm cdv ct:Value}(l:K.lookup f=some ⟨oc,od,.func (PySem.W.fnOf x qual (qbN st) (qbs st) (qad st) .none kV doc pm an cdv ct),osl⟩)
  (c:PySem.W.codeIn K cdv qual=true) (k:PySem.W.keepIn K (.ref f)=true):Fun K x qual st f (PySem.W.fnOf x qual (qbN st) (qbs st) (qad st) .none kV doc pm an cdv ct):=⟨⟨oc,od,kV,doc,pm,an,cdv,ct,osl,rfl,l,c⟩,k⟩
end
theorem qkq {A:Around}{k:Nat}(hr:Room k A):A.units + 1 < cLine:=Nat.lt_of_le_of_lt (Nat.add_le_add_left (by decide:1≤64) _) hr.units
section
variable {X:Cx}
theorem pv (i:Nat){x:Str}{pos:Pos}(hN:X.N[i]?=some x:=by rfl)(hv:Vis X.env.scope x:=by first | exact Or.inl rfl | exact Or.inr (Or.inl rfl) | exact Or.inr (Or.inr rfl))(hd:(x == ("__debug__" : Str))=false:=by decide)
  (hcd:(x == ("__classdict__" : Str))=false:=by decide):PE X (.Name x pos) (tVar i):=qlc hN hv hd hcd
end
theorem iteF {A B:Prop}(h:B):if false=true then A else B:=by
 rw [if_neg Bool.false_ne_true]
 exact h
theorem iteT {A B:Prop}(h:A):if true=true then A else B:=by
 rw [if_pos rfl]
 exact h
theorem ite2 {c A B:Prop}[Decidable c](h1:c->A)(h2:¬ c->B):if c then A else B:=by
 by_cases h:c
 ·rw [if_pos h]
  exact h1 h
 ·rw [if_neg h]
  exact h2 h
theorem qlz {c A B:Prop}[Decidable c](hc:c)(h:B):if (!decide c)=true then A else B:=by
 rw [decide_eq_true hc]
 exact iteF h
def Same (H H':Hp):Prop:=∀ b o,H b=some o->H' b=some o
theorem Same.refl (H:Hp):Same H H:=fun _ _ h=>h
theorem Same.trans {H H1 H2:Hp}(a:Same H H1)(b:Same H1 H2):Same H H2:=fun c o h=>b c o (a c o h)
theorem Same.seq {K:PySem.W.Frag}{H H':Hp}{a:Addr}{xs:List V}(e:Same H H')(h:SqL K H a xs):SqL K H' a xs:=by
 rcases h with (h | ⟨o,h⟩) | h
 ·exact .inl (.inl (e _ _ h))
 ·exact .inl (.inr ⟨o,e _ _ h⟩)
 ·exact .inr h
abbrev Bt (n:Nat)(i:Int):Prop:=Builtin.Int.intBits i≤n
theorem Bt.mono {m n:Nat}{i:Int}(h:Bt m i)(l:m≤n):Bt n i:=Nat.le_trans h l
theorem Bt.log {n:Nat}{i:Int}(h:Bt n i)(l:n≤8999):i.natAbs.log2 < 9000:=by
 have h1:=intBits_le_iff.mp h
 by_cases z:i.natAbs=0
 ·rw [z]; decide
 ·exact Nat.lt_of_lt_of_le ((Nat.log2_lt z).mpr h1) (by omega)
theorem Bt.mul {m n:Nat}{i j:Int}(h:Bt m i)(h':Bt n j):Bt (m + n) (i * j):=intBits_mul_le h h'
theorem Bt.of_le {n:Nat}{i j:Int}(h:Bt n j)(l:i.natAbs≤j.natAbs):Bt n i:=intBits_le_of_natAbs l h
theorem Bt.of_lt {n:Nat}{i:Int}(l:i.natAbs < 2 ^ n):Bt n i:=intBits_le_iff.mpr l
section
variable {X:Cx}
def CMulB (i j:Int):Prop:=Bt 20000 i/\Bt 20000 j
theorem qct:OpR X (binaryOp .Mult) (rI CMulB fun i j => .int (i * j)):=opI fun _ _ _ _ _ _ _ hc q=>mul_int q (IntMulOk.of_le hc.1 hc.2 (by decide))
def CDivB (i j:Int):Prop:=0 < j/\Bt 8000 j
theorem qbA:OpR X (binaryOp .FloorDiv) (rI CDivB fun i j => .int (i / j)):=opI fun i j _ _ _ _ _ hc q=>by
 refine floordiv_int (by have:=hc.1; omega) ?_ (.inl (PyProof.noPylong_of_log2 (hc.2.log (by decide))))
 rw [Int.fdiv_eq_ediv_of_nonneg i (Int.le_of_lt hc.1)]
 exact q
theorem qg7:OpR X (compareOp .IsNot) (fun x y H Q=>∃ b c,x = .bl b/\y = .bl c/\Q (.bl (b != c)) H):=by
 intro pins s σ H x y v u Q I rx ry h
 obtain ⟨b,c,rfl,rfl,q⟩:=h
 cases rx
 cases ry
 exact isnot_bool (qat I q rfl)
def qiT (xs ys:List V):Bool:=(List.range (min xs.length ys.length)).all (fun j=>eqV (xs.getD j .non) (ys.getD j .non)) && xs.length == ys.length
theorem qaa {α:Type}{xs:List α}{d:α}{j:Nat}(h:j < xs.length):xs.getD j d=xs[j]:=by
 rw [List.getD_eq_getElem?_getD,List.getElem?_eq_getElem h]; rfl
theorem qjp {f:V->Bool}{xs:List V}(h:xs.all f=true){j:Nat}(hj:j < xs.length):f (xs.getD j .non)=true:=by
 rw [qaa hj]
 exact List.all_eq_true.mp h _ (List.getElem_mem hj)
theorem qjb {xs:List V}{us:List Value}(r:Vals xs us){j:Nat}(hj:j < us.toArray.size):RelV (xs.getD j .non) (us.toArray[j]):=by
 have hl:=r.length
 have hj':j < us.length:=by simpa using hj
 have hx:j < xs.length:=by omega
 obtain ⟨u,h1,h2⟩:=r.get (i:=j) (x:=xs[j]) (List.getElem?_eq_getElem hx)
 rw [qaa hx]
 have:us.toArray[j]=us[j]:=by simp
 rw [this]
 rw [List.getElem?_eq_getElem hj'] at h1
 cases h1
 exact h2
def rEqT (K:PySem.W.Frag):R2:=fun x y H Q=>∃ p q xs ys,x = .ref p/\y = .ref q/\SqT K H p xs/\SqT K H q ys/\xs.all qiS=true/\ys.all qiS=true/\Q (.bl (qiT xs ys)) H
theorem qlg (hu:X.A.units < cLine):OpR X (compareOp .Eq) (rEqT X.K):=by
 intro pins s σ H x y v u Q I rx ry h
 obtain ⟨p,q,xs,ys,rfl,rfl,h1,h2,f1,f2,k⟩:=h
 cases rx
 cases ry
 obtain ⟨us,r1,t1,z1⟩:=I.tuple h1
 obtain ⟨ws,r2,t2,z2⟩:=I.tuple h2
 refine SeqAt.eq_tupleAt (show s.heap.IsTuple p us.toArray from t1) (show s.heap.IsTuple q ws.toArray from t2) hu (fun j a b=>?_) (qat I k ?_) (e:=fun j=>eqV (xs.getD j .non) (ys.getD j .non))
 ·exact qlK (qjb r1 a) (qjb r2 b) (qjp f1 (by have:=r1.length; have:=a; simp at this; omega)) (qjp f2 (by have:=r2.length; have:=b; simp at this; omega))
 ·unfold qiT
  rw [List.size_toArray,List.size_toArray,r1.length,r2.length]
end
section
variable {X:Cx}
def rIsi (K:PySem.W.Frag):List V->Hp->VK->Prop:=fun xs H Q=>∃ x t T b,xs=[x,.ty T]/\TyOf K H x t/\PySem.W.kitOne K t (.type T)=some b/\Q (.bl b) H
theorem qaH:qbP X (.builtin "isinstance") (rIsi X.K):=by
 intro pins s σ H xs us Q I r h
 obtain ⟨x,t,T,b,rfl,ty,e,q⟩:=h
 obtain ⟨u,w',rfl,rx,rt⟩:=vals2 r
 obtain rfl:w'=Value.type T:=rt
 exact qhw I rx ty e fun tk=>⟨.bl b,H,I.tok _,rfl,q⟩
example (K:PySem.W.Frag):PySem.W.kitOne K (.type "int") (.type "bool")=some false:=by rfl
example (K:PySem.W.Frag):PySem.W.kitOne K (.type "tuple") (.type "tuple")=some true:=by rfl
example (K:PySem.W.Frag):PySem.W.kitOne K (.type "int") (.type "int")=some true:=by rfl
end
structure Cal (P:Program)(w:World)(K:PySem.W.Frag)(mg:Str->Option Value)(base:Heap)(x:Str)(ps:List Str)(k:Nat)(sp:Sp):Prop where
 ex:∃ f fd,FnOk P w K mg base CX0 k f fd ps sp/\mg x=some (.ref f)/\PySem.W.keepIn K (.ref f)=true/\Binds K fd ps []
structure FunAt (K:PySem.W.Frag)(mg:Str->Option Value)(x:Str)(ps:List Str)(st:Stmt):Prop where
 ex:∃ f fd,Fun K x x st f fd/\mg x=some (.ref f)/\Binds K fd ps []
theorem FunAt.cal {P:Program}{w:World}{K:PySem.W.Frag}{mg:Str->Option Value}{base:Heap}{x:Str}{ps N:List Str}{st:Stmt}{k:Nat}{sp:Sp}(F:FunAt K mg x ps st)(S:qao N ps (qad st))(len:∀ vs H Q E,sp vs H Q E->vs.length=ps.length)
  (hbody:∀ (f:Addr) (cdv:Value) (A:Around) (outer:List Env) (s:Shared) (H:Hp) (vs:List V) (Q:VK) (E:XK),Room k (A.deeper (envOfC x (qad st) s.heap.objs.size f cdv))->sp vs H Q E ->
    ∃ t,PSs (cxOf CX0 P w K mg base N x (qad st) f cdv A outer s H E).nox (qbs st) t/\t { nx:=fun _ H'=>Q .non H',rt:=Q } (start N vs) H):Cal P w K mg base x ps (k + 1) sp:=by
 obtain ⟨f,fd,F1,m,b⟩:=F.ex
 exact ⟨f,fd,F1.ok S len (hbody f),m,F1.kp,b⟩
section
variable {X:Cx}{x:Str}{ps:List Str}{k:Nat}{sp:Sp}{e:Expr}{es:List Expr}{t:TA}{p pos:Pos}
theorem cc (c:Cal X.prog X.w X.K X.mg X.base x ps k sp)(hr:Room k X.A)(ha:PA X (e :: es) t)(hg:Gl X x:=by rfl)(hd:(x == ("__debug__" : Str))=false:=by decide)
  (hs:starEach (e :: es) X.env=(false,eval e X.env) :: starEach es X.env:=by rfl) (hp:(backTo pos (starEach es X.env)).any (·.1)=false:=by rfl):PE X (.Call (.Name x p) (e :: es) [] pos) (qkX sp [] E0 t):=by
 obtain ⟨f,fd,F,m,kp,b⟩:=c.ex
 exact qjZ F hr hg m kp b .nil pass0 ha hd hs hp
end
theorem funAt_mk {K:PySem.W.Frag}{h:Heap}{mg:Str->Option Value}{x:Str}{ps:List Str}{st:Stmt}{f:Addr}{oc:Value}{od an:Option Addr}{osl:Array (Option Value)}{kV doc pm cdv ct:Value}(X:K.In h)(G:h.Ns mainGlobals mg)
  (hb:∀ (kV doc pm:Value) (an:Option Addr) (cdv ct:Value) (us:List Value),us.length=ps.length->bindArgs (PySem.W.fnOf x x (qbN st) (qbs st) (qad st) .none kV doc pm an cdv ct) ⟨us,[]⟩=pure (ps.zip us))
  (a:PySem.W.nsIn K mainGlobals x=some (some (.ref f))) (l:K.lookup f=some ⟨oc,od,.func (PySem.W.fnOf x x (qbN st) (qbs st) (qad st) .none kV doc pm an cdv ct),osl⟩)
  (c:PySem.W.codeIn K cdv x=true) (k:PySem.W.keepIn K (.ref f)=true):FunAt K mg x ps st :=
 let F:=qjk (st:=st) l c k
 ⟨f,_,F,PySem.W.mg_of X G a,F.binds hb⟩
theorem qdF:bootBuiltins "abs" = some (.builtin "abs"):=by decide +kernel
theorem qbd:bootBuiltins "len" = some (.builtin "len"):=by decide +kernel
theorem qae:bootBuiltins "isinstance" = some (.builtin "isinstance"):=by decide +kernel
theorem qeL:bootBuiltins "int" = some (.type "int"):=by decide +kernel
theorem qd6:bootBuiltins "bool" = some (.type "bool"):=by decide +kernel
theorem qbp:bootBuiltins "tuple" = some (.type "tuple"):=by decide +kernel
theorem qdl:bootBuiltins "list" = some (.type "list"):=by decide +kernel
open MA
def ShAt (H:Hp)(v:V)(q:Rat):Prop:=∃ p,v = .ref p/\H p=some (.tup [.int q.num,.int (q.den:Int)])
def SB (n:Nat)(q:Rat):Prop:=Bt n q.num/\Bt n (q.den:Int)
theorem sN {H:Hp}{p:Addr}(h:H p=none)(o:HO):Same H (upd H p o):=fun b u q=>by rw [uE (qaf q h)]; exact q
theorem ShAt.same {H H':Hp}{v:V}{q:Rat}(h:ShAt H v q)(s:Same H H'):ShAt H' v q:=let ⟨p,e,h⟩:=h; ⟨p,e,s _ _ h⟩
def penL (c:Addr)(a l:Int):List (Key × V):=[(.inr "cells",.ref c),(.inr "at",.int a),(.inr "left",.int l)]
structure qaS (p:Addr)(H H':Hp):Prop where
 all:∀ b o,H b=some o->b≠p->H' b=some o
 pen:∀ c a l,H p=some (.dK (penL c a l))->∃ a' l',H' p=some (.dK (penL c a' l'))
theorem qaS.trans {p:Addr}{H H1 H2:Hp}(a:qaS p H H1)(b:qaS p H1 H2):qaS p H H2 :=
 ⟨fun c o h n=>b.all c o (a.all c o h n) n,fun c x l h=>let ⟨x',l',h'⟩:=a.pen c x l h; b.pen c x' l' h'⟩
theorem Same.x {p:Addr}{H H':Hp}(a:Same H H'):qaS p H H':=⟨fun b o h _=>a b o h,fun _ x l h=>⟨x,l,a _ _ h⟩⟩
theorem qaS.upd {p c:Addr}{H:Hp}{a l a' l':Int}(h:H p=some (.dK (penL c a l))):qaS p H (upd H p (.dK (penL c a' l'))) :=
 ⟨fun b o e hb=>by rw [uE hb]; exact e,fun c' x y e=>by rw [h] at e; cases e; exact ⟨a',l',uS⟩⟩
theorem SB.mono {m n:Nat}{q:Rat}(h:SB m q)(l:m≤n):SB n q:=⟨h.1.mono l,h.2.mono l⟩
theorem Bt.ediv {n:Nat}{i c:Int}(h:Bt n i)(hc:0 < c):Bt n (i / c):=by
 rw [<- Int.fdiv_eq_ediv_of_nonneg i (Int.le_of_lt hc)]; exact intBits_fdiv_le h
theorem Bt.gl {n:Nat}{a b:Int}(h:Bt n a)(ha:a≠0):Bt n (gI a b) :=
 h.of_le (Nat.le_of_dvd (by omega) (Int.natAbs_dvd_natAbs.mpr (qdh a b)))
theorem Bt.gr {n:Nat}{a b:Int}(h:Bt n b)(hb:b≠0):Bt n (gI a b):=by rw [qku]; exact h.gl hb
theorem Bt.addI {m:Nat}{i j:Int}(h:Bt m i)(h':Bt m j):Bt (m + 1) (i + j):=by
 have:=intBits_add_le h h'; rw [Nat.max_self] at this; exact this
theorem SB.divInt {n:Nat}{t b:Int}(ht:Bt n t)(hb:Bt n b)(h0:0 < b):SB n (Rat.divInt t b):=by
 have e:=qbw (t:=t) h0
 have g:=qbo (a:=t) (b:=b) (by omega)
 exact ⟨by rw [<- e.1]; exact ht.ediv g,by rw [<- e.2]; exact hb.ediv g⟩
theorem qhM (q:Rat):(q.den:Int)≠0:=by have:=den_pos q; omega
theorem qb5 (q r:Rat):0 < (q.den:Int) * (r.den:Int):=Int.mul_pos (den_pos q) (den_pos r)
theorem SB.add {m n:Nat}{q r:Rat}(h:SB m q)(h':SB n r):SB (m + n + 1) (q + r):=by
 have e:q + r=Rat.divInt (q.num * r.den + r.num * q.den) (q.den * r.den):=by
  rw [Rat.add_def',<- Int.natCast_mul,Rat.divInt_ofNat]
 rw [e]
 refine .divInt ((h.1.mul h'.2).addI ?_) ((h.2.mul h'.2).mono (by omega)) (qb5 q r)
 have:=h'.1.mul h.2
 rw [Nat.add_comm n m] at this
 exact this
theorem qcx {env:Env}:∀ (ns:List (Str × NameKind)) (cs:List (Str × Addr)),(∀ x∈ns,x.2 = .free->∃ c,env.cells.lookup x.1=some c)->(∀ x c,cs.lookup x=some c->env.cells.lookup x=some c) ->
  ∃ cl,(forIn ns cs (fun (p:Str × NameKind) (r:List (Str × Addr))=>if (p.2 == NameKind.free)=true then (do let c <- cellOf env p.1; pure (ForInStep.yield ((p.1,c) :: r))) else pure (ForInStep.yield r)):Sem (List (Str × Addr)))=pure cl /\
   (∀ x c,cl.lookup x=some c->env.cells.lookup x=some c)/\(∀ x,(x,NameKind.free)∈ns->∃ c,cl.lookup x=some c)/\(∀ x c,cs.lookup x=some c->∃ c',cl.lookup x=some c')
 | [],cs,_,hcs=>⟨cs,rfl,hcs,fun _ h=>(by simp at h),fun x c h=>⟨c,h⟩⟩
 | (n,k) :: r,cs,hall,hcs=>by
  by_cases hk:k = .free
  ·subst hk
   obtain ⟨c,hc⟩:=hall (n,.free) (by simp) rfl
   have hce:cellOf env n=pure c:=by unfold cellOf; rw [hc]
   have hcs':∀ x d,((n,c) :: cs).lookup x=some d->env.cells.lookup x=some d:=fun x d h=>by
    rw [List.lookup_cons] at h
    cases e:x == n with
    | true=>rw [e] at h; cases h; rw [eq_of_beq e]; exact hc
    | false=>rw [e] at h; exact hcs x d h
   obtain ⟨cl,e,h1,h2,h3⟩:=qcx r ((n,c) :: cs) (fun x hx=>hall x (by simp [hx])) hcs'
   refine ⟨cl,?_,h1,fun x hx=>?_,fun x d hd=>?_⟩
   ·rw [List.forIn_cons,<- e]
    show (cellOf env n >>= _) >>= _=_
    rw [hce]
    rfl
   ·rcases List.mem_cons.mp hx with z | z
    ·cases z
     exact h3 n c (by simp)
    ·exact h2 x z
   ·cases q:x == n with
    | true=>exact h3 x c (by rw [List.lookup_cons,q])
    | false=>exact h3 x d (by rw [List.lookup_cons,q]; exact hd)
  ·obtain ⟨cl,e,h1,h2,h3⟩:=qcx r cs (fun x hx=>hall x (by simp [hx])) hcs
   refine ⟨cl,?_,h1,fun x hx=>?_,h3⟩
   ·rw [List.forIn_cons,<- e]
    have:(k == NameKind.free)=false:=by simpa using hk
    simp only [this,Bool.false_eq_true,if_false]
    rfl
   ·rcases List.mem_cons.mp hx with z | z
    ·cases z
     exact absurd rfl hk
    ·exact h2 x z
theorem qdD {env:Env}{scope:Scope}(hall:∀ x∈scope.names,x.2 = .free->∃ c,env.cells.lookup x.1=some c) :
  ∃ cl,closureFor scope env=pure cl/\(∀ x c,cl.lookup x=some c->env.cells.lookup x=some c)/\(∀ x,(x,NameKind.free)∈scope.names->∃ c,cl.lookup x=some c):=by
 obtain ⟨cl,e,h1,h2,_⟩:=qcx (env:=env) scope.names [] hall (fun x c h=>by simp at h)
 refine ⟨cl,?_,h1,h2⟩
 simp only [closureFor]
 rw [e]
 rfl
def qaB (X:Cx)(scope:Scope)(N:List Str)(cl:List (Str × Addr))(C:Addr)(s:Shared)(H:Hp)(ex:List Addr):Cx :=
 { X with N:=N,s₀:=s,H₀:=H,env:=compEnvC scope cl C X.env,outer:=X.stack,stack:=X.stack,ex:=ex,fn:=fun _=>false,pn:=[] }
def PTs (X:Cx)(ifs:List Expr)(t:TT):Prop :=
 ∀ (pins:List (Addr × Obj)) (s:Shared) (σ:St) (H:Hp) (Q:Bool->Hp->Prop),Inv X pins σ H s->t σ H Q ->
  wpAny (model X.prog X.w) X.A (forIn ifs true fun c r=>if r=true then do let ok <- isTrue c X.env (eval c X.env); pure (ForInStep.yield ok) else pure (ForInStep.yield r)) (TP X pins σ Q) X.xe s
def tTT:TT:=fun _ H Q=>Q true H
theorem qba {X:Cx}:PTs X [] tTT:=fun pins s σ H Q I h=>wpAny_tests_nil ⟨H,I,h⟩
def qid (σ0:St->St)(wi:TI)(g:TG)(tc:TT)(te:TE):TE:=fun σ H Q=>wi σ H fun J H1=>∀ p,H1 p=none->∃ W:Nat->Nat->List V->St->Hp->Prop,(∃ m,W 0 m [] (σ0 σ) (upd H1 p (.lst [])))/\∀ i m ys σ' H',W i m ys σ' H' ->
 (J.stop i H'/\Q (.ref p) H')\/(J.go i H'/\∀ x H2,J.yld i H' x H2->g x σ' H2 fun σ2 H3=>tc σ2 H3 fun b H4=>if b=true then te σ2 H4 fun v H5=>ys.length < sizeLine/\H5 p=some (.lst ys)/\(∃ m',m' < m/\W (i + 1) m' (ys ++ [v]) σ2 (upd H5 p (.lst (ys ++ [v]))))
  else ∃ m',m' < m/\W (i + 1) m' ys σ2 H4)
def Sees (X:Cx)(scope:Scope)(N:List Str)(σ0:St->St):Prop :=
 ∀ σ:St,(σ0 σ).length=N.length/\∀ (i:Nat) (x:Str) (v:V),N[i]?=some x->(σ0 σ)[i]?=some (some v)->scope.names.lookup x=some .free/\∃ j:Nat,X.N[j]?=some x/\σ[j]?=some (some v)
theorem qaO {env:Env}{names:List (Str × NameKind)}{x:Str}:∀ {k},(names.map fun (n,k)=>if (k == NameKind.free && env.scope.kind == .function && env.kindOf n == some .cell)=true then (n,NameKind.cell) else (n,k)).lookup x=some k->(x,k)∈names\/(k = .cell/\(x,NameKind.free)∈names):=by
 induction names with
 | nil=>intro k h; simp at h
 | cons a r ih =>
  intro k h
  obtain ⟨n,k0⟩:=a
  rw [List.map_cons] at h
  dsimp only at h
  by_cases hc:(k0 == NameKind.free && env.scope.kind == .function && env.kindOf n == some .cell)=true
  ·rw [if_pos hc] at h
   have hk0:k0 = .free:=by
    simp only [Bool.and_eq_true,beq_iff_eq] at hc
    exact hc.1.1
   rw [List.lookup_cons] at h
   cases e:x == n with
   | true =>
    rw [e] at h
    cases h
    exact .inr ⟨rfl,by rw [eq_of_beq e,hk0]; simp⟩
   | false =>
    rw [e] at h
    rcases ih h with z | ⟨z1,z2⟩
    ·exact .inl (List.mem_cons_of_mem _ z)
    ·exact .inr ⟨z1,List.mem_cons_of_mem _ z2⟩
  ·rw [if_neg hc] at h
   rw [List.lookup_cons] at h
   cases e:x == n with
   | true =>
    rw [e] at h
    cases h
    exact .inl (by rw [eq_of_beq e]; simp)
   | false =>
    rw [e] at h
    rcases ih h with z | ⟨z1,z2⟩
    ·exact .inl (List.mem_cons_of_mem _ z)
    ·exact .inr ⟨z1,List.mem_cons_of_mem _ z2⟩
theorem qaY {env:Env}{x:Str}:∀ {names:List (Str × NameKind)},names.lookup x=some .free ->
  (names.map fun (n,k)=>if (k == NameKind.free && env.scope.kind == .function && env.kindOf n == some .cell)=true then (n,NameKind.cell) else (n,k)).lookup x=some .cell\/(names.map fun (n,k)=>if (k == NameKind.free && env.scope.kind == .function && env.kindOf n == some .cell)=true then (n,NameKind.cell) else (n,k)).lookup x=some .free
 | [],h=>by simp at h
 | (n,k0) :: r,h=>by
  rw [List.lookup_cons] at h
  rw [List.map_cons]
  dsimp only
  cases e:x == n with
  | true =>
   rw [e] at h
   cases h
   by_cases hc:(NameKind.free == NameKind.free && env.scope.kind == .function && env.kindOf n == some .cell)=true
   ·rw [if_pos hc]; left; rw [List.lookup_cons,e]
   ·rw [if_neg hc]; right; rw [List.lookup_cons,e]
  | false =>
   rw [e] at h
   have ih:=qaY (env:=env) h
   by_cases hc:(k0 == NameKind.free && env.scope.kind == .function && env.kindOf n == some .cell)=true
   ·rw [if_pos hc,List.lookup_cons,e]; exact ih
   ·rw [if_neg hc,List.lookup_cons,e]; exact ih
theorem qbY {x:Str}{k:NameKind}:∀ {names:List (Str × NameKind)},names.lookup x=some k->(x,k)∈names:=fun h=>PySem.mem_of_lookup h
theorem qbr {X:Cx}{elt tg iter:Expr}{ifs:List Expr}{scope:Scope}{pos:Pos}{wi:TI}{g:TG}{tc:TT}{te:TE}{N:List Str}{σ0:St->St}
  (hc:X.calm=true) (hxe:∀ e s,X.xe e s->False) (hcell:∀ y∈scope.names,y.2 ≠ .cell) (hkind:scope.kind = .function) (hnames:∀ y∈scope.names,y.2 = .local->scope.names.lookup y.1=some .local)
  (hfr:∀ y∈scope.names,y.2 = .free->X.env.kindOf y.1=some .cell\/X.env.kindOf y.1=some .free) (hσ:Sees X scope N σ0)
  (hi:PI X tg iter wi)
  (hg:∀ cl C s H ex,PG (qaB X scope N cl C s H ex) tg g) (ht:∀ cl C s H ex,PTs (qaB X scope N cl C s H ex) ifs tc) (he:∀ cl C s H ex,PE (qaB X scope N cl C s H ex) elt te)
  (hs:∀ x,foldedSetIterable iter X.env x=pure x:=by intro _; rfl):PE X (.ListComp elt [⟨tg,iter,ifs,0⟩] scope pos) (qid σ0 wi g tc te):=by
 intro pins s σ H Q I h
 obtain ⟨cl,hclos,hcl1,hcl2⟩:=qdD (env:=X.env) (scope:=scope) fun y hy hf=>I.ok.has y.1 (hfr y hy hf)
 rw [eval_ListComp]
 refine wpAny_comprehension_free (use:=none) rfl hs hclos hkind hnames (thn (hi pins s σ H _ I h) fun v s1 h1=>thn h1 fun itv s2 h2=>?_)
 obtain ⟨it,fp,tn,J,H2,e,I2,T,st2,f2,h3⟩:=h2
 subst e
 have hpn:H2 s2.heap.objs.size=none:=I2.hok.fresh (Nat.le_refl _)
 obtain ⟨W,⟨m0,w0⟩,turn⟩:=h3 _ hpn
 refine wpAny_newObj_type ?_
 generalize hp:s2.heap.objs.size=p at *
 have I3:Inv X pins σ (upd H2 p (.lst [])) { s2 with heap:=s2.heap.push { cls := .type "list",dict:=none,data := .seq ([]:List Value).toArray } }:=by
  refine I2.laid (a:=p) (o := .lst []) (t':=s2.toks) (fun b u q=>Heap.get?_push_of_some _ q) (Nat.le_of_eq hp) ⟨Nat.zero_le _,[],0,.nil,?_⟩
  rw [<- hp]
  exact Heap.get?_push_size _ rfl
 have hf3:∀ b∈fp,FpOk X pins (upd H2 p (.lst [])) b:=fun b hb=>by
  obtain ⟨o,ho,_⟩:=T.obj _ _ st2 b hb
  have:b≠p:=by rw [<- hp]; exact Nat.ne_of_lt (Heap.lt_size ho)
  exact ⟨by rw [uE this]; exact (f2 b hb).1,(f2 b hb).2⟩
 generalize hs3:({ s2 with heap:=s2.heap.push { cls := .type "list",dict:=none,data := .seq ([]:List Value).toArray } }:Shared)=s3 at *
 have st3:tn 0 s3.heap:=by rw [<- hs3]; exact T.keep _ _ _ st2 fun b _ o e=>Heap.get?_push_of_some _ e
 generalize hH3:upd H2 p (.lst [])=H3 at *
 refine wpAny_newFunctionEnv hcell (by intro y hy; simp at hy) (fun h1 hns1 hsb1=>?_) hkind
 generalize hC:s3.heap.objs.size=C at *
 have keep:∀ b u,s3.heap.get? b=some u->h1.get? b=some u:=fun b u q =>
  hsb1.extBut b u (by rw [<- hC]; exact Nat.ne_of_lt (Heap.lt_size q)) (Heap.get?_push_of_some _ q)
 have fpC:∀ b∈fp,b≠C:=fun b hb=>by
  obtain ⟨o,ho,_⟩:=T.obj _ _ st3 b hb
  rw [<- hC]; exact Nat.ne_of_lt (Heap.lt_size ho)
 have hCn:H3 C=none:=I3.hok.fresh (Nat.le_of_eq hC)
 have ok':(qaB X scope N cl C s3 H3 fp).Ok:=by
  refine ⟨I3.mod,hkind,I3.ok.glob,I3.ok.blt,Nat.le_of_eq hC,fun x y c a b=>I3.ok.inj x y c (hcl1 x c a) (hcl1 y c b),fun x hx=>?_,fun _ _ z=>Bool.noConfusion (show false=true from z),I3.ok.hd,I3.ok.frames,.inl rfl,fun b hb=>⟨fpC b hb,fun x c q=>(hf3 b hb).2.2.2.2.1 x c (hcl1 x c q)⟩,
   I3.bs,Nat.le_trans I3.ok.bsz I3.sz,fun b o e hb=>?_,fun b hb z=>?_,I3.stack,I3.stkFree⟩
  ·have hx':(relabel scope X.env).names.lookup x=some .cell\/(relabel scope X.env).names.lookup x=some .free:=hx
   rcases hx' with z | z
   ·rcases qaO z with y | ⟨_,y⟩
    ·exact absurd rfl (hcell _ y)
    ·exact hcl2 x y
   ·rcases qaO z with y | ⟨y,_⟩
    ·exact hcl2 x y
    ·cases y
  ·rcases (hf3 b hb).2.2.2.1 with z | z
   ·exact I3.ok.noex b o e z
   ·exact absurd (Nat.lt_of_lt_of_le (Heap.lt_size e) (Nat.le_trans I3.ok.bsz z)) (Nat.lt_irrefl _)
  ·rcases List.mem_cons.mp (I3.stkSub b z) with q | q
   ·exact (hf3 b hb).2.1 q
   ·exact (hf3 b hb).2.2.1 q
 have J0:Inv (qaB X scope N cl C s3 H3 fp) [] (σ0 σ) H3 { s3 with heap:=h1,toks:=s3.toks + ([]:List (Str × Value)).length }:=by
  refine ⟨ok',rfl,I3.bare,Un.kept keep,⟨_,hns1,fun i x v a b c=>?_⟩,fun x c q=>?_,hCn,fun x c q=>I3.freeC x c (hcl1 x c q),fun q hq=>absurd (show q∈([]:List (Addr × Obj)) from hq) (by simp),I3.hok.kept keep,(hσ σ).1⟩
  ·obtain ⟨hf,j,hj,hv⟩:=(hσ σ).2 i x v a b
   have hm:=qbY hf
   obtain ⟨m,hn,hl⟩:=id I3.loc
   have hk:=hfr _ hm rfl
   have hvis:Vis X.env.scope x:=hk.elim (fun z => .inr (.inl z)) fun z => .inr (.inr z)
   obtain ⟨u,r,lk⟩:=hl j x v hj hv hvis
   refine ⟨u,r,.inr ⟨qaY hf,?_⟩⟩
   obtain ⟨c',hc'⟩:=hcl2 x hm
   refine ⟨c',hc',?_⟩
   have hx:=hcl1 x c' hc'
   rcases lk with ⟨kl,_⟩ | ⟨_,c2,e2,o2,ho2,hd2⟩
   ·rcases hk with z | z <;> rw [kl] at z <;> cases z
   ·rw [hx] at e2
    cases e2
    exact ⟨o2,keep _ _ ho2,hd2⟩
  ·obtain ⟨v,o,ho,hd⟩:=I3.cell x c (hcl1 x c q)
   exact ⟨v,o,keep _ _ ho,hd⟩
 have st4:tn 0 h1:=T.keep _ _ _ st3 fun b _ o e=>keep b o e
 have stat:∀ {H':Hp},(∀ b∈fp,H' b=none)->∀ b∈fp,FpOk (qaB X scope N cl C s3 H3 fp) [] H' b:=fun hn b hb =>
  ⟨hn b hb,fpC b hb,fun z=>ok'.exfs b hb z,.inl hb,fun x c q=>(hf3 b hb).2.2.2.2.1 x c (hcl1 x c q),fun q hq=>absurd (show q∈([]:List (Addr × Obj)) from hq) (by simp)⟩
 have back:∀ {σ':St} {H':Hp} {s':Shared} {pl:List (Addr × Obj)},Inv (qaB X scope N cl C s3 H3 fp) pl σ' H' s'->∀ h',Heap.SameBut C s'.heap h'->Inv X pins σ H' { s' with heap:=h' }:=fun {σ' H' s' pl} J h' hsb=>by
  have I5:Inv X pins σ H' s':=Inv.call' (ch:=fp) I3 J.os J.base J.hok J.bare fun b hb=>⟨(hf3 b hb).2.2.2.1,(hf3 b hb).2.1,(hf3 b hb).2.2.2.2.1,(hf3 b hb).2.2.2.2.2⟩
  refine Inv.turned (it:=C) (t':=s'.toks) I5 (fun b o hb e=>hsb.extBut b o hb e) J.free (fun z=>?_) (.inr ?_) (fun x c q z=>?_) fun q hq z=>?_
  ·exact absurd (show X.env.locals < C by rw [<- hC]; exact I3.lt) (by rw [z]; exact Nat.lt_irrefl _)
  ·rw [<- hC]; exact I3.sz
  ·obtain ⟨v,o,ho,_⟩:=I3.cell x c q
   have:=Heap.lt_size ho
   rw [z,hC] at this
   exact Nat.lt_irrefl _ this
  ·have:=Heap.lt_size (I3.pin q hq).1
   rw [z,hC] at this
   exact Nat.lt_irrefl _ this
 have loop:codeAny (model X.prog X.w) X.A (.compLoop (.ListComp elt [⟨tg,iter,ifs,0⟩] scope pos) 0 (.ref it) (.ref p) (compEnvC scope cl C X.env)) (compPost (model X.prog X.w) X.A X.xe none (EP X pins σ Q) (.ref p) C) { s3 with heap:=h1,toks:=s3.toks + ([]:List (Str × Value)).length }:=by
  refine codeAny_loop rfl (fun n s'=>∃ i ys σ' H',Inv (qaB X scope N cl C s3 H3 fp) [] σ' H' s'/\tn i s'.heap/\(∀ b∈fp,H' b=none)/\W i n ys σ' H') (fun n s' hI=>?_) m0 ⟨0,[],σ0 σ,H3,J0,st4,fun b hb=>(hf3 b hb).1,w0⟩
  obtain ⟨i,ys,σ',H',J',st',fr',w'⟩:=hI
  show wpAny _ X.A ((compTurn (.ListComp elt [⟨tg,iter,ifs,0⟩] scope pos) 0 (.ref it) (.ref p) (compEnvC scope cl C X.env)).onRaise (fun x=>do noteFrame x (compEnvC scope cl C X.env); theTreesLotGoes x)) _ _ s'
  refine wpAny_noted ?_
  rw [compTurn_list]
  rcases turn i n ys σ' H' w' with ⟨stop,q⟩ | ⟨go,step⟩
  ·refine wpAny_bind (wpAny_standAt (wpAny_bind (wpAny_mono (T.done (qaB X scope N cl C s3 H3 fp) rfl rfl rfl hc i [] s' σ' H' X.xe J' (stat fr') st' stop) (fun r s4 h4=>?_) fun _ _ x=>(hxe _ _ x).elim)))
   obtain ⟨hr,I4⟩:=h4
   subst hr
   refine wpAny_pure ?_
   obtain ⟨m,hn,_⟩:=id I4.loc
   exact ⟨m,hn,fun h' hsb=>⟨.ref p,H',back I4 h' hsb,rfl,q⟩⟩
  ·refine wpAny_bind (wpAny_standAt (wpAny_bind (wpAny_mono (T.item (qaB X scope N cl C s3 H3 fp) rfl rfl rfl hc i [] s' σ' H' X.xe J' (stat fr') st' go) (fun r s4 h4=>?_) fun _ _ x=>(hxe _ _ x).elim)))
   obtain ⟨u,hr,h4⟩:=h4
   subst hr
   refine wpAny_bind (wpAny_mono h4 (fun _ s5 h5=>?_) fun _ _ x=>(hxe _ _ x).elim)
   obtain ⟨x,H5,I5,r5,y5,st5,fr5⟩:=h5
   have I5':=I5.pinned (stat fr5) (T.obj _ _ st5)
   refine wpAny_bind (wpAny_mono (hg cl C s3 H3 fp _ s5 σ' H5 x u _ I5' r5 (step x H5 y5)) (fun _ s6 h6=>?_) fun _ _ x=>(hxe _ _ x).elim)
   obtain ⟨σ6,H6,I6,q6⟩:=h6
   have again:∀ {σ7:St} {H7:Hp} {s7:Shared} {ys7:List V},Inv (qaB X scope N cl C s3 H3 fp) ([] ++ qc6 fp s5.heap) σ7 H7 s7->(∃ m',m' < n/\W (i + 1) m' ys7 σ7 H7) ->
     ∃ m,m < n/\∃ i ys σ' H',Inv (qaB X scope N cl C s3 H3 fp) [] σ' H' s7/\tn i s7.heap/\(∀ b∈fp,H' b=none)/\W i m ys σ' H':=fun {σ7 H7 s7 ys7} I7 n7=>by
    obtain ⟨m',hm,w7⟩:=n7
    refine ⟨m',hm,i + 1,ys7,σ7,H7,I7.unpinned,T.keep _ _ _ st5 fun b hb o e=>(I7.pin (b,o) (List.mem_append_right _ (List.mem_append_right _ (qbb hb e)))).1,fun b hb=>?_,w7⟩
    obtain ⟨o,e,d⟩:=T.obj _ _ st5 b hb
    exact (I7.pin (b,o) (List.mem_append_right _ (List.mem_append_right _ (qbb hb e)))).2.1
   refine wpAny_bind (wpAny_mono (ht cl C s3 H3 fp _ s6 σ6 H6 _ I6 q6) (fun ok s7 h7=>?_) fun _ _ x=>(hxe _ _ x).elim)
   obtain ⟨H7,I7,q7⟩:=h7
   cases ok with
   | false =>
    rw [if_neg Bool.false_ne_true] at q7
    exact wpAny_pure ⟨rfl,again I7 q7⟩
   | true =>
    rw [if_pos rfl] at q7
    refine wpAny_bind (wpAny_bind (wpAny_mono (he cl C s3 H3 fp _ s7 σ6 H7 _ I7 q7) (fun y s8 h8=>?_) fun _ _ x=>(hxe _ _ x).elim))
    obtain ⟨v,H8,I8,r8,hz,hH8,w8⟩:=h8
    refine wpAny_bind (wpAny_mono (qes (X:=qaB X scope N cl C s3 H3 fp) _ s8 σ6 H8 (.ref p) [v] (.ref p) [y] (fun x H9=>x = .non/\H9=upd H8 p (.lst (ys ++ [v]))) I8 rfl (.cons r8 .nil) ⟨p,ys,v,rfl,rfl,hH8,hz,rfl,rfl⟩) (fun _ s9 h9=>?_) fun _ _ x=>(hxe _ _ x).elim)
    obtain ⟨z,H9,I9,_,_,e9⟩:=h9
    subst e9
    exact wpAny_pure (wpAny_pure ⟨rfl,again I9 w8⟩)
 exact codeAny_compStart_list loop (T.self X.A 0 _ _ _ st4 loop)
theorem qdm:bootBuiltins "all" = some (.builtin "all"):=by decide +kernel
theorem range_all (bs:List Bool)(n:Nat)(h:bs.length=n):(List.range n).all (fun i=>bs.getD i false)=bs.all id:=by
 subst h
 rw [Bool.eq_iff_iff,List.all_eq_true,List.all_eq_true]
 constructor
 ·intro h x hx
  obtain ⟨i,hi,e⟩:=List.mem_iff_getElem.mp hx
  have:=h i (by simpa using hi)
  rw [qaa hi,e] at this
  exact this
 ·intro h i hi
  have hi':i < bs.length:=by simpa using hi
  rw [qaa hi']
  exact h _ (List.getElem_mem hi')
section
variable {X:Cx}
def rAll:List V->Hp->VK->Prop:=fun xs H Q=>∃ (l:Addr) (bs:List Bool),xs=[.ref l]/\H l=some (.lst (bs.map V.bl))/\Q (.bl (bs.all id)) H
theorem qbE (hc:X.calm=true):qbP X (.builtin "all") rAll:=by
 intro pins s σ H xs us Q I r h
 obtain ⟨l,bs,rfl,hl,q⟩:=h
 obtain ⟨u,rfl,ru⟩:=vals1 r
 cases ru
 obtain ⟨its,rv,p,hz⟩:=I.list (SqL.of hl)
 have hlt:l < s.heap.objs.size:=I.hok.lt hl
 have hlen:bs.length=its.length:=by have:=rv.length; rwa [List.length_map] at this
 refine call_all_walk (wpAny_pyIter_list p.isList ?_)
 refine ⟨s.heap.objs.size,_,_,_,_,_,fun i=>bs.getD i false,rfl,Walks.list (A:=X.A.in1) (show X.A.in1.handled=none from I.ok.hd hc) s.heap.objs.size l (Nat.ne_of_lt hlt) its.toArray,⟨⟨_,Heap.get?_push_size _ rfl,rfl,rfl⟩,?_⟩,?_,fun h' tk hk=>?_⟩
 ·exact p.isList.at fun o e=>Heap.get?_push_of_some _ e
 ·intro i v s' Q' E' hv hQ
  have hi:i < its.length:=by
   have:=(Array.getElem?_eq_some_iff.mp hv).1
   simpa using this
  have hb:(bs.map V.bl)[i]?=some (.bl (bs.getD i false)):=by
   rw [List.getElem?_map,List.getElem?_eq_getElem (by omega),qaa (by omega)]; rfl
  obtain ⟨u,hu,ru⟩:=rv.get hb
  have:v=u:=by
   rw [List.getElem?_toArray,hu] at hv
   exact (Option.some.inj hv).symm
  subst this
  obtain rfl:v=Value.bool (bs.getD i false):=ru
  exact wpAny_pure hQ
 ·refine ⟨.bl (bs.all id),H,I.kept (t':=tk) fun b o e=>hk b o ?_ (Heap.get?_push_of_some _ e),?_,q⟩
  ·intro z
   have:b=s.heap.objs.size:=by simpa using z
   subst this
   exact Nat.lt_irrefl _ (Heap.lt_size e)
  ·show Value.bool _=Value.bool _
   rw [range_all bs its.toArray.size (by simpa using hlen)]
end
section
variable {X:Cx}
theorem qlJ (a b c d:Int):qiT [.int a,.int b] [.int c,.int d]=(decide (a=c) && decide (b=d)):=by
 unfold qiT
 simp [List.range_succ,eqV,Bool.beq_eq_decide_eq]
theorem qj6 (hu:X.A.units < cLine):OpR X (compareOp .Eq) (fun x y H Q=>∃ q r,ShAt H x q/\ShAt H y r/\Q (.bl (decide (q=r))) H):=by
 intro pins s σ H x y v u Q I rx ry h
 obtain ⟨q,r,⟨p,rfl,hp⟩,⟨p',rfl,hp'⟩,k⟩:=h
 exact qlg hu pins s σ H _ _ v u Q I rx ry ⟨p,p',_,_,rfl,rfl,SqT.of hp,SqT.of hp',rfl,rfl,by rw [qlJ,MA.tup_eq]; exact k⟩
end
end L2
namespace L2
open MA
theorem sb0 (n:Nat)(h:1≤n):SB n 0:=SB.mono (m:=1) ⟨by decide,by decide⟩ h
end L2
namespace My
open PySem L2 MA
section
variable {P:Program}{w:World}{K:PySem.W.Frag}{mg:Str->Option Value}{base:Heap}
structure Txt (mg:Str->Option Value):Prop where
 z_abs:mg "abs" = none
 z_len:mg "len" = none
 z_isinstance:mg "isinstance" = none
 z_range:mg "range" = none
 z_int:mg "int" = none
 z_bool:mg "bool" = none
 z_tuple:mg "tuple" = none
 z_list:mg "list" = none
 z_all:mg "all" = none
def qcW:Sp:=fun vs H Q _=>∃ a b:Int,vs=[.int a,.int b]/\Q (.int (gI a b)) H
def sp2 (f:Rat->Rat->Rat)(pre:Rat->Rat->Prop):Sp:=fun vs H Q _=>∃ a b q r,vs=[a,b]/\ShAt H a q/\ShAt H b r/\SB 3000 q/\SB 3000 r/\pre q r/\∀ v H',Same H H'->ShAt H' v (f q r)->Q v H'
abbrev qi5:Sp:=sp2 (fun q r=>q + r) (fun _ _=>True)
def Shs (H:Hp):List V->List Rat->Prop:=Paired (ShAt H)
theorem Shs.same {H H':Hp}(s:Same H H'):∀ {xs:List V} {qs:List Rat},Shs H xs qs->Shs H' xs qs
 | _,_,.nil => .nil
 | _,_,.cons r t => .cons (r.same s) (Shs.same s t)
def qgL:Sp:=fun vs H Q _=>∃ l xs qs,vs=[.ref l]/\H l=some (.lst xs)/\Shs H xs qs/\(∀ q∈qs,SB 3000 q)/\(∀ i,SB 3000 ((qs.take i).foldl (· + ·) 0))/\∀ v H',Same H H'->ShAt H' v (qs.foldl (· + ·) 0)->Q v H'
theorem Paired.at' {α β:Type}{R:α->β->Prop}:∀ {xs:List α} {ys:List β} {i:Nat} {x:α},Paired R xs ys->xs[i]?=some x->∃ y,ys[i]?=some y/\R x y
 | _,_,_,_,.nil,e=>by simp at e
 | _,_,0,_,.cons r _,e=>by simp at e; subst e; exact ⟨_,rfl,r⟩
 | _,_,i + 1,x,.cons _ t,e=>by
  obtain ⟨u,h1,h2⟩:=Paired.at' (i:=i) (x:=x) t (by simpa using e)
  exact ⟨u,by simpa using h1,h2⟩
theorem qeA {qs:List Rat}{i:Nat}{q:Rat}(h:qs[i]?=some q):(qs.take (i + 1)).foldl (· + ·) 0=(qs.take i).foldl (· + ·) 0 + q:=by
 rw [List.take_add_one,h,List.foldl_append]
 rfl
def Pen (H:Hp)(p:Addr)(n:Nat):Prop:=∃ (c:Addr) (ns:List Int) (a l:Int),H p=some (.dK (penL c a l))/\H c=some (.lst (ns.map V.int))/\0≤a/\a≤n
theorem Pen.mono {H:Hp}{p:Addr}{m n:Nat}(h:Pen H p m)(l:m≤n):Pen H p n:=let ⟨c,ns,a,x,h1,h2,h3,h4⟩:=h; ⟨c,ns,a,x,h1,h2,h3,by omega⟩
theorem Pen.same {H H':Hp}{p:Addr}{n:Nat}(h:Pen H p n)(s:Same H H'):Pen H' p n:=let ⟨c,ns,a,x,h1,h2,h3,h4⟩:=h; ⟨c,ns,a,x,s _ _ h1,s _ _ h2,h3,h4⟩
theorem Pen.dk {H:Hp}{p:Addr}{n:Nat}(h:Pen H p n):∃ kvs,H p=some (.dK kvs):=let ⟨c,ns,a,x,h1,_⟩:=h; ⟨_,h1⟩
theorem qg4 (c:Addr)(a l:Int):valV (penL c a l) (.inr "cells" : Key)=some (.ref c):=by rfl
theorem qlb (c:Addr)(a l:Int):valV (penL c a l) (.inr "at" : Key)=some (.int a):=by rfl
theorem qiu (c:Addr)(a l:Int):valV (penL c a l) (.inr "left" : Key)=some (.int l):=by rfl
theorem qk9 (c:Addr)(a l b:Int):putK (penL c a l) (.inr "at" : Key) (.int b)=penL c b l:=by rfl
theorem qiq (c:Addr)(a l b:Int):putK (penL c a l) (.inr "left" : Key) (.int b)=penL c a b:=by rfl
theorem qhz {H:Hp}{p c:Addr}{a l:Int}(h:H p=some (.dK (penL c a l))):DGet H p (.str "cells") (some (.ref c)):=by
 have:=DGet.k (k:=(.inr "cells" : Key)) h; rw [qg4] at this; exact this
theorem qlF {H:Hp}{p c:Addr}{a l:Int}(h:H p=some (.dK (penL c a l))):DGet H p (.str "at") (some (.int a)):=by
 have:=DGet.k (k:=(.inr "at" : Key)) h; rw [qlb] at this; exact this
theorem qiN {H:Hp}{p c:Addr}{a l:Int}(h:H p=some (.dK (penL c a l))):DGet H p (.str "left") (some (.int l)):=by
 have:=DGet.k (k:=(.inr "left" : Key)) h; rw [qiu] at this; exact this
theorem qkz {H:Hp}{p c:Addr}{a l b:Int}(h:H p=some (.dK (penL c a l))):DPut H p (.str "at") (.int b) (upd H p (.dK (penL c b l))):=by
 have:=DPut.k (k:=(.inr "at" : Key)) (v := .int b) h (by show 3 < sizeLine; decide); rw [qk9] at this; exact this
theorem qeD {H:Hp}{p c:Addr}{a l b:Int}(h:H p=some (.dK (penL c a l))):DPut H p (.str "left") (.int b) (upd H p (.dK (penL c a b))):=by
 have:=DPut.k (k:=(.inr "left" : Key)) (v := .int b) h (by show 3 < sizeLine; decide); rw [qiq] at this; exact this
theorem qkE {ns:List Int}(a:Int)(h:0 < ns.length):∃ z:Int,atI (ns.map V.int) (a % (((ns.map V.int).length:Nat):Int))=some (.int z):=by
 rw [List.length_map]
 have h0:=Int.emod_nonneg a (show ((ns.length:Nat):Int)≠0 by omega)
 have h1:=Int.emod_lt_of_pos a (show 0 < ((ns.length:Nat):Int) by omega)
 have hk:(a % (ns.length:Int)).toNat < ns.length:=by omega
 have ek:a % (ns.length:Int)=(((a % (ns.length:Int)).toNat:Nat):Int):=by omega
 refine ⟨ns[(a % (ns.length:Int)).toNat],?_⟩
 have q:atI (ns.map V.int) (((a % (ns.length:Int)).toNat:Nat):Int)=some (.int ns[(a % (ns.length:Int)).toNat]):=qbO (by rw [List.getElem?_map,List.getElem?_eq_getElem hk] <;> rfl)
 rw [<- ek] at q
 exact q
def qcX:Sp:=fun vs H Q _=>∃ (p:Addr) (m:Int) (n:Nat),vs=[.ref p,.int m]/\Pen H p n/\n < 100000/\0 < m/\m < 1073741824/\∀ (r:Int) (H':Hp),0≤r->r < m->Pen H' p (n + 1)->qaS p H H'->Q (.int r) H'
def qkZ (K:PySem.W.Frag):Sp:=fun vs H Q _=>∃ (a:Addr) (ns:List Int),vs=[.ref a]/\SqL K H a (ns.map V.int)/\∀ (p:Addr) (H':Hp),Same H H'->Pen H' p 0->Q (.ref p) H'
theorem qiY (ns:List Int)(lo hi:Option Int):∃ ms:List Int,cutV (ns.map V.int) lo hi=ms.map V.int:=by
 unfold cutV
 rw [<- List.map_drop,<- List.map_take]
 exact ⟨_,rfl⟩
def qco:Sp:=fun vs H Q _=>∃ a b:Int,vs=[.int a,.int b]/\0≤a/\0≤b/\Q (.int (gI a b)) H
theorem qkv (a b:Int):gI (if a < 0 then -a else a) b=gI a b:=by
 unfold gI Int.gcd
 congr 2
 split <;> omega
def qii (K:PySem.W.Frag):Sp:=fun vs H Q _=>∃ (a:Addr) (ns:List Int),vs=[.ref a]/\SqL K H a (ns.map V.int)/\ns.length≤63/\∀ H',Q (.bl true) H'
end
end My
namespace L2
open PySem PySem.Spec PyProof.Rows
theorem Sees.none1 {X:Cx}{scope:Scope}{x:Str}:Sees X scope [x] (fun _=>[none]):=fun σ=>⟨rfl,fun i y v _ h2=>by
 match i with
 | 0=>simp at h2
 | n + 1=>simp at h2⟩
theorem qdU {X:Cx}{elt tg iter:Expr}{ifs:List Expr}{scope:Scope}{pos:Pos}{wi:TI}{g:TG}{tc:TT}{te:TE}{N:List Str}{σ0:St->St}
  (hc:X.calm=true) (hxe:∀ e s,X.xe e s->False) (hcell:∀ y∈scope.names,y.2 ≠ .cell) (hkind:scope.kind = .function) (hnames:∀ y∈scope.names,y.2 = .local->scope.names.lookup y.1=some .local)
  (hnf:∀ y∈scope.names,y.2 ≠ .free) (hσ:Sees X scope N σ0) (hi:PI X tg iter wi)
  (hg:∀ cl C s H ex,PG (qaB X scope N cl C s H ex) tg g) (ht:∀ cl C s H ex,PTs (qaB X scope N cl C s H ex) ifs tc) (he:∀ cl C s H ex,PE (qaB X scope N cl C s H ex) elt te)
  (hs:∀ x,foldedSetIterable iter X.env x=pure x:=by intro _; rfl):PE X (.ListComp elt [⟨tg,iter,ifs,0⟩] scope pos) (qid σ0 wi g tc te) :=
 qbr hc hxe hcell hkind hnames (fun y hy hf=>absurd hf (hnf y hy)) hσ hi hg ht he hs
theorem qkJ (q r:Rat):q + r=Rat.divInt (q.num * r.den + r.num * q.den) (q.den * r.den):=by
 rw [Rat.add_def',<- Int.natCast_mul,Rat.divInt_ofNat]
mutual
inductive qaP (H:Hp):V->PyData->Prop
 | non:qaP H .non .none
 | bl (b:Bool):qaP H (.bl b) (.bool b)
 | int (i:Int):qaP H (.int i) (.int i)
 | str (x:Str):qaP H (.str x) (.str x)
 | lst {a:Addr} {xs:List V} {ds:List PyData}:H a=some (.lst xs)->qam H xs ds->qaP H (.ref a) (.list ds)
 | tup {a:Addr} {xs:List V} {ds:List PyData}:H a=some (.tup xs)->qam H xs ds->qaP H (.ref a) (.tuple ds)
 | dict {a:Addr} {kvs:List (Key × V)} {ps:List (PyData × PyData)}:H a=some (.dK kvs)->qam H (kvs.map fun p=>kV p.1) (ps.map (·.1))->qam H (kvs.map (·.2)) (ps.map (·.2))->qaP H (.ref a) (.dict ps)
inductive qam (H:Hp):List V->List PyData->Prop
 | nil:qam H [] []
 | cons {x:V} {xs:List V} {d:PyData} {ds:List PyData}:qaP H x d->qam H xs ds->qam H (x :: xs) (d :: ds)
end
mutual
def lists:PyData->Bool
 | .list _=>true
 | .tuple xs=>qbc xs
 | .dict kvs=>qdX kvs
 | _=>false
def qbc:List PyData->Bool
 | []=>false
 | x :: xs=>lists x || qbc xs
def qdX:List (PyData × PyData)->Bool
 | []=>false
 | (k,v) :: r=>lists k || lists v || qdX r
end
theorem qdz:∀ ps:List (PyData × PyData),qdX ps=false->qbc (ps.map (·.1))=false/\qbc (ps.map (·.2))=false
 | [],_=>⟨rfl,rfl⟩
 | (k,v) :: r,h=>by
  simp only [qdX,Bool.or_eq_false_iff] at h
  obtain ⟨h1,h2⟩:=qdz r h.2
  simp only [List.map_cons,qbc,Bool.or_eq_false_iff]
  exact ⟨⟨h.1.1,h1⟩,⟨h.1.2,h2⟩⟩
theorem qe1 {P:Program}{w:World}:∀ {es:List DictEntry} {vs:List (Key × Value)} {kvs:List (Key × V)},Pairs (qaF P w) es vs->KV kvs vs->Vals (kvs.map fun p=>kV p.1) (es.map (·.key))/\Vals (kvs.map (·.2)) (es.map (·.val)):=by
 intro es vs kvs h
 induction h generalizing kvs with
 | nil =>
  intro r
  cases r
  exact ⟨.nil,.nil⟩
 | @cons e kv es vs h1 h2 _ ih =>
  intro r
  cases r with
  | @cons p _ kvs' _ hp hr =>
   obtain ⟨a,b⟩:=ih hr
   refine ⟨.cons ?_ a,.cons ?_ b⟩
   ·have h1':qfd kv.1 e.key=true:=h1
    rw [<- hp.1] at h1'
    rcases qaG h1' with ⟨i,t,e1,e2⟩ | ⟨x,t,e1,e2⟩
    ·show RelV (kV p.1) e.key
     rw [e1,e2]; exact ⟨t,rfl⟩
    ·show RelV (kV p.1) e.key
     rw [e1,e2]; exact ⟨t,rfl⟩
   ·show RelV p.2 e.val
    rw [h2]; exact hp.2
mutual
theorem qfB {P:Program}{w:World}{H:Hp}{h:Heap}(ok:HOk P w H h):∀ {v:V} {d:PyData} {u:Value},qaP H v d->RelV v u->∃ as,Reads h u d as/\(lists d=false->sysModules ∉ as)
 | _,_,_,.non,r=>by cases r; exact ⟨[],.none,fun _=>by simp⟩
 | _,_,_,.bl b,r=>by cases r; exact ⟨[],.bool b,fun _=>by simp⟩
 | _,_,_,.int i,r=>by obtain ⟨t,rfl⟩:=r; exact ⟨[],.int i t,fun _=>by simp⟩
 | _,_,_,.str x,r=>by obtain ⟨t,rfl⟩:=r; exact ⟨[],.str x t,fun _=>by simp⟩
 | _,_,_,.lst (a:=a) (xs:=xs) ha hd,r=>by
  cases r
  obtain ⟨_,its,n,rv,e⟩:=ok a _ ha
  obtain ⟨as,hr,_⟩:=qbj ok hd rv
  exact ⟨a :: as,.list e rfl rfl (by simpa using hr),fun z=>by simp [lists] at z⟩
 | _,_,_,.tup (a:=a) (xs:=xs) ha hd,r=>by
  cases r
  obtain ⟨_,its,rv,o,e,hc,n,hdt,_⟩:=ok a _ ha
  obtain ⟨as,hr,hs⟩:=qbj ok hd rv
  exact ⟨as,.tuple e hc hdt (by simpa using hr),fun z=>hs (by simpa [lists] using z)⟩
 | _,_,_,.dict (a:=a) (kvs:=kvs) (ps:=ps) ha hk hv,r=>by
  cases r
  obtain ⟨_,hm,vs,rv,o,es,ep,e,hx,hdt,_,hp,_⟩:=ok a _ ha
  obtain ⟨rk,rvv⟩:=qe1 hp rv
  obtain ⟨as,hr,hs⟩:=qbj ok hk rk
  obtain ⟨bs,hr',hs'⟩:=qbj ok hv rvv
  refine ⟨a :: as ++ bs,.dict e hx.1 hdt hr hr',fun z=>?_⟩
  obtain ⟨z1,z2⟩:=qdz ps (by simpa [lists] using z)
  have hne:a≠sysModules:=by simpa using hm
  simp only [List.cons_append,List.mem_cons,List.mem_append,not_or]
  exact ⟨fun q=>hne q.symm,hs z1,hs' z2⟩
theorem qbj {P:Program}{w:World}{H:Hp}{h:Heap}(ok:HOk P w H h):∀ {vs:List V} {ds:List PyData} {us:List Value},qam H vs ds->Vals vs us->∃ as,ReadsAll h us ds as/\(qbc ds=false->sysModules ∉ as)
 | _,_,_,.nil,r=>by cases r; exact ⟨[],.nil,fun _=>by simp⟩
 | _,_,_,.cons hx hd,r=>by
  cases r with
  | cons r1 r2 =>
   obtain ⟨as,h1,s1⟩:=qfB ok hx r1
   obtain ⟨bs,h2,s2⟩:=qbj ok hd r2
   refine ⟨as ++ bs,.cons h1 h2,fun z=>?_⟩
   simp only [qbc,Bool.or_eq_false_iff] at z
   simp only [List.mem_append,not_or]
   exact ⟨s1 z.1,s2 z.2⟩
end
theorem qhX:bootBuiltins "repr" = some (.builtin "repr"):=by decide +kernel
section
variable {X:Cx}
def rRepr:List V->Hp->VK->Prop:=fun xs H Q=>∃ v d,xs=[v]/\qaP H v d/\d.showable=true/\(d.hasDict=true->lists d=false)/\d.depth≤20/\d.shown.length≤sizeLine/\Q (.str d.shown) H
theorem qeH {k:Nat}(hr:Room k X.A):qbP X (.builtin "repr") rRepr:=by
 intro pins s σ H xs us Q I r h
 obtain ⟨v,d,rfl,hd,hs,hl,hdp,hz,q⟩:=h
 obtain ⟨u,rfl,ru⟩:=vals1 r
 obtain ⟨as,rd,hsm⟩:=qfB I.hok hd ru
 have fin:∀ h' u tk,(∀ b o,s.heap.get? b=some o->h'.get? b=some o)->EP X pins σ Q (.str d.shown u) { s with heap:=h',toks:=tk }:=fun h' u tk hk =>
  ⟨.str d.shown,H,I.kept (t':=tk) hk,⟨u,rfl⟩,q⟩
 cases u with
 | ref a=>exact repr_of_reads' rd hs (fun z=>hsm (hl z)) hr.gd (by have:=hr.un; omega) (fun _ _ e=>e) fin hz
 | none=>cases rd; rw [PyData.shown_none] at fin; exact PySem.P.repr_of_none (fin _ _ _ fun _ _ e=>e)
 | bool b=>cases rd; rw [PyData.shown_bool] at fin; exact PySem.P.repr_of_bool (fin _ _ _ fun _ _ e=>e)
 | int i t=>cases rd; rw [PyData.shown_int] at fin; exact PySem.P.repr_of_int (by simpa [PyData.showable] using hs) (fin _ _ _ fun _ _ e=>e)
 | str x t=>cases rd; rw [PyData.shown_str] at fin hz; exact PySem.P.repr_of_str (fin _ _ _ fun _ _ e=>e) hz
 | _=>cases rd
end
end L2
namespace L2
open PySem PySem.Spec PyProof.Rows MA
mutual
theorem qaP.same {H H':Hp}(s:Same H H'):∀ {v:V} {d:PyData},qaP H v d->qaP H' v d
 | _,_,.non => .non
 | _,_,.bl b => .bl b
 | _,_,.int i => .int i
 | _,_,.str x => .str x
 | _,_,.lst h r => .lst (s _ _ h) (qam.same s r)
 | _,_,.tup h r => .tup (s _ _ h) (qam.same s r)
 | _,_,.dict h r q => .dict (s _ _ h) (qam.same s r) (qam.same s q)
theorem qam.same {H H':Hp}(s:Same H H'):∀ {vs:List V} {ds:List PyData},qam H vs ds->qam H' vs ds
 | _,_,.nil => .nil
 | _,_,.cons h r => .cons (qaP.same s h) (qam.same s r)
end
theorem qam.length {H:Hp}:∀ {vs:List V} {ds:List PyData},qam H vs ds->vs.length=ds.length
 | _,_,.nil=>rfl
 | _,_,.cons _ r=>by simp [qam.length r]
theorem qam.append {H:Hp}:∀ {vs ws:List V} {ds es:List PyData},qam H vs ds->qam H ws es->qam H (vs ++ ws) (ds ++ es)
 | _,_,_,_,.nil,r=>r
 | _,_,_,_,.cons h t,r => .cons h (qam.append t r)
structure Good (d:PyData):Prop where
 sh:d.showable=true
 ld:d.hasDict=true->lists d=false
 dp:d.depth≤20
 ln:d.shown.length≤sizeLine
structure Sm (n:Nat)(d:PyData):Prop where
 sh:d.showable=true
 ld:(d.hasDict && lists d)=false
 dp:d.depth≤n
 lv:d.leavesShort 40=true
 bk:d.bulk≤n
theorem Sm.mono {m n:Nat}{d:PyData}(h:Sm m d)(l:m≤n):Sm n d:=⟨h.sh,h.ld,Nat.le_trans h.dp l,h.lv,Nat.le_trans h.bk l⟩
theorem Sm.good {n:Nat}{d:PyData}(h:Sm n d)(l:n≤100000)(l2:d.depth≤20):Good d:=by
 refine ⟨h.sh,fun z=>?_,l2,?_⟩
 ·have:=h.ld; rw [z] at this; simpa using this
 ·have a:=PyData.shown_le_bulk 40 (by decide) d h.lv
  have b:=h.bk
  have:(40 + 2) * d.bulk≤42 * 100000:=Nat.mul_le_mul (by omega) (by omega)
  rw [sizeLine_eq]
  omega
abbrev I18 (i:Int):Prop:=i.natAbs < 1000000000000000000
theorem qeg {i:Int}(h:I18 i):PyData.showable (.int i)=true:=by
 have h':i.natAbs < 1000000000000000000:=h
 simp only [PyData.showable,decide_eq_true_eq]
 by_cases z:i.natAbs=0
 ·rw [z]; decide
 ·exact (Nat.log2_lt z).mpr (Nat.lt_of_lt_of_le h' (Nat.le_trans (show (1000000000000000000:Nat)≤2 ^ 60 by decide) (Nat.pow_le_pow_right (by decide) (by decide))))
theorem qgP {i:Int}(h:I18 i):PyData.leavesShort 40 (.int i)=true:=by
 have e:=int_text_length_le10 (a:=i) (k:=18) (by decide) (by have h':i.natAbs < 1000000000000000000:=h; exact Nat.lt_of_lt_of_le h' (by decide))
 simp only [PyData.leavesShort,decide_eq_true_eq]
 show (Str.ofString (toString i)).length≤40
 rw [PySem.ofString_length]; omega
theorem qk2 {i:Int}(h:I18 i)(n:Nat):Sm n (.int i):=⟨qeg h,rfl,Nat.zero_le _,qgP h,Nat.zero_le _⟩
theorem qjF (b:Bool)(n:Nat):Sm n (.bool b):=⟨rfl,rfl,Nat.zero_le _,rfl,Nat.zero_le _⟩
theorem qjD (n:Nat):Sm n .none:=⟨rfl,rfl,Nat.zero_le _,rfl,Nat.zero_le _⟩
theorem qgH (x:String):(Str.ofString x).cps.toList.all (fun c=>decide (c < 16 ^ 8))=true:=by
 rw [Str.ofString_eq_toList]
 simp only [List.all_eq_true,decide_eq_true_eq,List.mem_map]
 rintro c ⟨ch,_,rfl⟩
 have:=ch.valid
 have h2:ch.toNat < 0x110000:=by
  rcases this with h | ⟨_,h⟩
  ·exact Nat.lt_trans h (by decide)
  ·exact h
 have e:(16:Nat) ^ 8=4294967296:=by decide
 omega
theorem qk1 {x:String}{n:Nat}(h:x.length≤n):Sm n (.str (Str.ofString x)):=⟨rfl,rfl,Nat.zero_le _,by simp only [PyData.leavesShort]; exact qgH x,by
 simp only [PyData.bulk]
 show (Str.ofString x).length≤n
 rw [PySem.ofString_length]; exact h⟩
theorem qi9 {ds:List PyData}{n m:Nat}(h:∀ d∈ds,Sm n d)(hd:(PyData.hasDictAll ds && qbc ds)=false)(hm:n + 1≤m)(hm2:ds.length * (n + 1)≤m):Sm m (.tuple ds):=by
 have key:∀ ds:List PyData,(∀ d∈ds,Sm n d)->PyData.showableAll ds=true/\PyData.depthAll ds≤n/\PyData.leavesShortAll 40 ds=true/\PyData.bulkAll ds≤ds.length * (n + 1):=by
  intro ds
  induction ds with
  | nil=>intro _; exact ⟨rfl,Nat.zero_le _,rfl,Nat.zero_le _⟩
  | cons d ds ih =>
   intro h
   obtain ⟨a,b,c,e⟩:=ih fun d hd=>h d (List.mem_cons_of_mem _ hd)
   have hd:=h d List.mem_cons_self
   refine ⟨by simp [PyData.showableAll,hd.sh,a],by simp only [PyData.depthAll]; exact Nat.max_le.mpr ⟨hd.dp,b⟩,by simp [PyData.leavesShortAll,hd.lv,c],?_⟩
   simp only [PyData.bulkAll,List.length_cons,Nat.add_mul]
   have:=hd.bk
   omega
 obtain ⟨a,b,c,e⟩:=key ds h
 exact ⟨by simpa [PyData.showable] using a,by simpa [PyData.hasDict,lists] using hd,by simp only [PyData.depth]; omega,by simpa [PyData.leavesShort] using c,by simp only [PyData.bulk]; omega⟩
theorem qjE {ds:List PyData}{n m:Nat}(h:∀ d∈ds,Sm n d)(hd:PyData.hasDictAll ds=false)(hm:n + 1≤m)(hm2:ds.length * (n + 1)≤m):Sm m (.list ds):=by
 have t:=qi9 (m:=m) h (by rw [hd]; rfl) hm hm2
 exact ⟨by have:=t.sh; simpa [PyData.showable] using this,by simp [PyData.hasDict,hd],by have:=t.dp; simpa [PyData.depth] using this,by have:=t.lv; simpa [PyData.leavesShort] using this,by have:=t.bk; simpa [PyData.bulk] using this⟩
def isI:PyData->Bool
 | .int _=>true
 | _=>false
def qbB:PyData->Bool
 | .tuple [.int a,.int b]=>decide (1≤b) && decide (gI a b=1)
 | _=>false
end L2
namespace L2
open PySem
theorem qkF:bootBuiltins "dict" = some (.type "dict"):=by decide +kernel
theorem qeJ:bootBuiltins "sum" = some (.builtin "sum"):=by decide +kernel
theorem qeK:bootBuiltins "sorted" = some (.builtin "sorted"):=by decide +kernel
theorem qlR:bootBuiltins "min" = some (.builtin "min"):=by decide +kernel
end L2
namespace My
open PySem L2 MA
structure Txt2 (mg:Str->Option Value):Prop extends Txt mg where
 z_str:mg "str" = none
 z_repr:mg "repr" = none
 z_dict:mg "dict" = none
 z_sum:mg "sum" = none
 z_sorted:mg "sorted" = none
 z_max:mg "max" = none
 z_min:mg "min" = none
 z_any:mg "any" = none
 z_enumerate:mg "enumerate" = none
 z_zip:mg "zip" = none
 z_set:mg "set" = none
 z_reversed:mg "reversed" = none
 z_ValueError:mg "ValueError" = none
def qdK:Sp:=fun vs H Q _=>∃ v d,vs=[v]/\qaP H v d/\Q (.bl (isI d)) H
def qdL:Sp:=fun vs H Q _=>∃ v d,vs=[v]/\qaP H v d/\Q (.bl (qbB d)) H
def tyI:PyData->Bool
 | .int _ | .bool _=>true
 | _=>false
def tyB:PyData->Bool
 | .bool _=>true
 | _=>false
def tyT:PyData->Bool
 | .tuple _=>true
 | _=>false
def tyL:PyData->Bool
 | .list _=>true
 | _=>false
theorem tyOf {K:PySem.W.Frag}{H:Hp}{v:V}{d:PyData}(h:qaP H v d):∃ t,TyOf K H v (.type t) /\
  PySem.W.kitOne K (.type t) (.type "int")=some (tyI d)/\PySem.W.kitOne K (.type t) (.type "bool")=some (tyB d) /\
  PySem.W.kitOne K (.type t) (.type "tuple")=some (tyT d)/\PySem.W.kitOne K (.type t) (.type "list")=some (tyL d):=by
 cases h with
 | non=>exact ⟨_,.non,rfl,rfl,rfl,rfl⟩
 | bl b=>exact ⟨_,.bl b,rfl,rfl,rfl,rfl⟩
 | int i=>exact ⟨_,.int i,rfl,rfl,rfl,rfl⟩
 | str x=>exact ⟨_,.str x,rfl,rfl,rfl,rfl⟩
 | lst h _=>exact ⟨_,.lst h,rfl,rfl,rfl,rfl⟩
 | tup h _=>exact ⟨_,.tup h,rfl,rfl,rfl,rfl⟩
 | dict h _ _=>exact ⟨_,.dK h,rfl,rfl,rfl,rfl⟩
end My
namespace L2
open PySem PySem.Spec PyProof.Rows
def qe7:Expr->Bool
 | .Starred _ _=>false
 | _=>true
theorem qgJ {e:Expr}{es:List Expr}{env:Env}(h:qe7 e=true):starEach (e :: es) env=(false,eval e env) :: starEach es env:=by
 cases e <;> first | rfl | exact absurd h (by simp [qe7])
section
variable {X:Cx}{e:Expr}{es:List Expr}{te:TE}{t:TA}{pos:Pos}
theorem pC (ha:PE X e te)(hr:PA X es t)(hn:qe7 e=true:=by rfl):PA X (e :: es) (qkV te t):=qj0 ha hr (qgJ hn)
end
end L2
namespace L2
end L2
namespace L2
end L2
namespace L2
open PySem PySem.Spec PyProof.Rows
theorem qhS {X:Cx}{elt tg iter:Expr}{ifs:List Expr}{scope:Scope}{pos pos2:Pos}{wi:TI}{g:TG}{tc:TT}{te:TE}{N:List Str}{σ0:St->St}{pins:List (Addr × Obj)}{s:Shared}{σ:St}{H:Hp}{Q:VK}{use:Option (Value->Sem Unit)}{QQ:Value->Shared->Prop}
  (hc:X.calm=true) (hxe:∀ e s,X.xe e s->False) (hcell:∀ y∈scope.names,y.2 ≠ .cell) (hkind:scope.kind = .function) (hnames:∀ y∈scope.names,y.2 = .local->scope.names.lookup y.1=some .local)
  (hfr:∀ y∈scope.names,y.2 = .free->X.env.kindOf y.1=some .cell\/X.env.kindOf y.1=some .free) (hσ:Sees X scope N σ0)
  (hi:PI X tg iter wi)
  (hg:∀ cl C s H ex,PG (qaB X scope N cl C s H ex) tg g) (ht:∀ cl C s H ex,PTs (qaB X scope N cl C s H ex) ifs tc) (he:∀ cl C s H ex,PE (qaB X scope N cl C s H ex) elt te)
  (hs:∀ x,foldedSetIterable iter X.env x=pure x) (I:Inv X pins σ H s) (h:qid σ0 wi g tc te σ H Q)
  (hend:∀ (p C:Addr) (H':Hp) (s':Shared) (m:Str->Option Value) (f:Flow),Inv X pins σ H' s'->FpOk X pins H' C->s'.heap.Ns C m->(∀ h',Heap.SameBut C s'.heap h'->Inv X pins σ H' { s' with heap:=h' })->Q (.ref p) H' ->
    compPost (model X.prog X.w) X.A X.xe use QQ (.ref p) C (.ok f) s') :
  wpAny (model X.prog X.w) X.A (comprehension (.ListComp elt [⟨tg,iter,ifs,0⟩] scope pos) scope X.env pos2 (newList []) false (eval iter X.env) use) QQ X.xe s:=by
 obtain ⟨cl,hclos,hcl1,hcl2⟩:=qdD (env:=X.env) (scope:=scope) fun y hy hf=>I.ok.has y.1 (hfr y hy hf)
 refine wpAny_comprehension_free (use:=use) rfl hs hclos hkind hnames (thn (hi pins s σ H _ I h) fun v s1 h1=>thn h1 fun itv s2 h2=>?_)
 obtain ⟨it,fp,tn,J,H2,e,I2,T,st2,f2,h3⟩:=h2
 subst e
 have hpn:H2 s2.heap.objs.size=none:=I2.hok.fresh (Nat.le_refl _)
 obtain ⟨W,⟨m0,w0⟩,turn⟩:=h3 _ hpn
 refine wpAny_newObj_type ?_
 generalize hp:s2.heap.objs.size=p at *
 have I3:Inv X pins σ (upd H2 p (.lst [])) { s2 with heap:=s2.heap.push { cls := .type "list",dict:=none,data := .seq ([]:List Value).toArray } }:=by
  refine I2.laid (a:=p) (o := .lst []) (t':=s2.toks) (fun b u q=>Heap.get?_push_of_some _ q) (Nat.le_of_eq hp) ⟨Nat.zero_le _,[],0,.nil,?_⟩
  rw [<- hp]
  exact Heap.get?_push_size _ rfl
 have hf3:∀ b∈fp,FpOk X pins (upd H2 p (.lst [])) b:=fun b hb=>by
  obtain ⟨o,ho,_⟩:=T.obj _ _ st2 b hb
  have:b≠p:=by rw [<- hp]; exact Nat.ne_of_lt (Heap.lt_size ho)
  exact ⟨by rw [uE this]; exact (f2 b hb).1,(f2 b hb).2⟩
 generalize hs3:({ s2 with heap:=s2.heap.push { cls := .type "list",dict:=none,data := .seq ([]:List Value).toArray } }:Shared)=s3 at *
 have st3:tn 0 s3.heap:=by rw [<- hs3]; exact T.keep _ _ _ st2 fun b _ o e=>Heap.get?_push_of_some _ e
 generalize hH3:upd H2 p (.lst [])=H3 at *
 refine wpAny_newFunctionEnv hcell (by intro y hy; simp at hy) (fun h1 hns1 hsb1=>?_) hkind
 generalize hC:s3.heap.objs.size=C at *
 have keep:∀ b u,s3.heap.get? b=some u->h1.get? b=some u:=fun b u q =>
  hsb1.extBut b u (by rw [<- hC]; exact Nat.ne_of_lt (Heap.lt_size q)) (Heap.get?_push_of_some _ q)
 have fpC:∀ b∈fp,b≠C:=fun b hb=>by
  obtain ⟨o,ho,_⟩:=T.obj _ _ st3 b hb
  rw [<- hC]; exact Nat.ne_of_lt (Heap.lt_size ho)
 have hCn:H3 C=none:=I3.hok.fresh (Nat.le_of_eq hC)
 have ok':(qaB X scope N cl C s3 H3 fp).Ok:=by
  refine ⟨I3.mod,hkind,I3.ok.glob,I3.ok.blt,Nat.le_of_eq hC,fun x y c a b=>I3.ok.inj x y c (hcl1 x c a) (hcl1 y c b),fun x hx=>?_,fun _ _ z=>Bool.noConfusion (show false=true from z),I3.ok.hd,I3.ok.frames,.inl rfl,fun b hb=>⟨fpC b hb,fun x c q=>(hf3 b hb).2.2.2.2.1 x c (hcl1 x c q)⟩,
   I3.bs,Nat.le_trans I3.ok.bsz I3.sz,fun b o e hb=>?_,fun b hb z=>?_,I3.stack,I3.stkFree⟩
  ·have hx':(relabel scope X.env).names.lookup x=some .cell\/(relabel scope X.env).names.lookup x=some .free:=hx
   rcases hx' with z | z
   ·rcases qaO z with y | ⟨_,y⟩
    ·exact absurd rfl (hcell _ y)
    ·exact hcl2 x y
   ·rcases qaO z with y | ⟨y,_⟩
    ·exact hcl2 x y
    ·cases y
  ·rcases (hf3 b hb).2.2.2.1 with z | z
   ·exact I3.ok.noex b o e z
   ·exact absurd (Nat.lt_of_lt_of_le (Heap.lt_size e) (Nat.le_trans I3.ok.bsz z)) (Nat.lt_irrefl _)
  ·rcases List.mem_cons.mp (I3.stkSub b z) with q | q
   ·exact (hf3 b hb).2.1 q
   ·exact (hf3 b hb).2.2.1 q
 have J0:Inv (qaB X scope N cl C s3 H3 fp) [] (σ0 σ) H3 { s3 with heap:=h1,toks:=s3.toks + ([]:List (Str × Value)).length }:=by
  refine ⟨ok',rfl,I3.bare,Un.kept keep,⟨_,hns1,fun i x v a b c=>?_⟩,fun x c q=>?_,hCn,fun x c q=>I3.freeC x c (hcl1 x c q),fun q hq=>absurd (show q∈([]:List (Addr × Obj)) from hq) (by simp),I3.hok.kept keep,(hσ σ).1⟩
  ·obtain ⟨hf,j,hj,hv⟩:=(hσ σ).2 i x v a b
   have hm:=qbY hf
   obtain ⟨m,hn,hl⟩:=id I3.loc
   have hk:=hfr _ hm rfl
   have hvis:Vis X.env.scope x:=hk.elim (fun z => .inr (.inl z)) fun z => .inr (.inr z)
   obtain ⟨u,r,lk⟩:=hl j x v hj hv hvis
   refine ⟨u,r,.inr ⟨qaY hf,?_⟩⟩
   obtain ⟨c',hc'⟩:=hcl2 x hm
   refine ⟨c',hc',?_⟩
   have hx:=hcl1 x c' hc'
   rcases lk with ⟨kl,_⟩ | ⟨_,c2,e2,o2,ho2,hd2⟩
   ·rcases hk with z | z <;> rw [kl] at z <;> cases z
   ·rw [hx] at e2
    cases e2
    exact ⟨o2,keep _ _ ho2,hd2⟩
  ·obtain ⟨v,o,ho,hd⟩:=I3.cell x c (hcl1 x c q)
   exact ⟨v,o,keep _ _ ho,hd⟩
 have st4:tn 0 h1:=T.keep _ _ _ st3 fun b _ o e=>keep b o e
 have stat:∀ {H':Hp},(∀ b∈fp,H' b=none)->∀ b∈fp,FpOk (qaB X scope N cl C s3 H3 fp) [] H' b:=fun hn b hb =>
  ⟨hn b hb,fpC b hb,fun z=>ok'.exfs b hb z,.inl hb,fun x c q=>(hf3 b hb).2.2.2.2.1 x c (hcl1 x c q),fun q hq=>absurd (show q∈([]:List (Addr × Obj)) from hq) (by simp)⟩
 have back:∀ {σ':St} {H':Hp} {s':Shared} {pl:List (Addr × Obj)},Inv (qaB X scope N cl C s3 H3 fp) pl σ' H' s'->∀ h',Heap.SameBut C s'.heap h'->Inv X pins σ H' { s' with heap:=h' }:=fun {σ' H' s' pl} J h' hsb=>by
  have I5:Inv X pins σ H' s':=Inv.call' (ch:=fp) I3 J.os J.base J.hok J.bare fun b hb=>⟨(hf3 b hb).2.2.2.1,(hf3 b hb).2.1,(hf3 b hb).2.2.2.2.1,(hf3 b hb).2.2.2.2.2⟩
  refine Inv.turned (it:=C) (t':=s'.toks) I5 (fun b o hb e=>hsb.extBut b o hb e) J.free (fun z=>?_) (.inr ?_) (fun x c q z=>?_) fun q hq z=>?_
  ·exact absurd (show X.env.locals < C by rw [<- hC]; exact I3.lt) (by rw [z]; exact Nat.lt_irrefl _)
  ·rw [<- hC]; exact I3.sz
  ·obtain ⟨v,o,ho,_⟩:=I3.cell x c q
   have:=Heap.lt_size ho
   rw [z,hC] at this
   exact Nat.lt_irrefl _ this
  ·have:=Heap.lt_size (I3.pin q hq).1
   rw [z,hC] at this
   exact Nat.lt_irrefl _ this
 have loop:codeAny (model X.prog X.w) X.A (.compLoop (.ListComp elt [⟨tg,iter,ifs,0⟩] scope pos) 0 (.ref it) (.ref p) (compEnvC scope cl C X.env)) (compPost (model X.prog X.w) X.A X.xe use QQ (.ref p) C) { s3 with heap:=h1,toks:=s3.toks + ([]:List (Str × Value)).length }:=by
  refine codeAny_loop rfl (fun n s'=>∃ i ys σ' H',Inv (qaB X scope N cl C s3 H3 fp) [] σ' H' s'/\tn i s'.heap/\(∀ b∈fp,H' b=none)/\W i n ys σ' H') (fun n s' hI=>?_) m0 ⟨0,[],σ0 σ,H3,J0,st4,fun b hb=>(hf3 b hb).1,w0⟩
  obtain ⟨i,ys,σ',H',J',st',fr',w'⟩:=hI
  show wpAny _ X.A ((compTurn (.ListComp elt [⟨tg,iter,ifs,0⟩] scope pos) 0 (.ref it) (.ref p) (compEnvC scope cl C X.env)).onRaise (fun x=>do noteFrame x (compEnvC scope cl C X.env); theTreesLotGoes x)) _ _ s'
  refine wpAny_noted ?_
  rw [compTurn_list]
  rcases turn i n ys σ' H' w' with ⟨stop,q⟩ | ⟨go,step⟩
  ·refine wpAny_bind (wpAny_standAt (wpAny_bind (wpAny_mono (T.done (qaB X scope N cl C s3 H3 fp) rfl rfl rfl hc i [] s' σ' H' X.xe J' (stat fr') st' stop) (fun r s4 h4=>?_) fun _ _ x=>(hxe _ _ x).elim)))
   obtain ⟨hr,I4⟩:=h4
   subst hr
   refine wpAny_pure ?_
   obtain ⟨m,hn,_⟩:=id I4.loc
   have I5:Inv X pins σ H' s4:=Inv.call' (ch:=fp) I3 I4.os I4.base I4.hok I4.bare fun b hb=>⟨(hf3 b hb).2.2.2.1,(hf3 b hb).2.1,(hf3 b hb).2.2.2.2.1,(hf3 b hb).2.2.2.2.2⟩
   exact hend p C H' s4 m _ I5 (I3.fpOk (Nat.le_of_eq hC) I4.free) hn (fun h' hsb=>back I4 h' hsb) q
  ·refine wpAny_bind (wpAny_standAt (wpAny_bind (wpAny_mono (T.item (qaB X scope N cl C s3 H3 fp) rfl rfl rfl hc i [] s' σ' H' X.xe J' (stat fr') st' go) (fun r s4 h4=>?_) fun _ _ x=>(hxe _ _ x).elim)))
   obtain ⟨u,hr,h4⟩:=h4
   subst hr
   refine wpAny_bind (wpAny_mono h4 (fun _ s5 h5=>?_) fun _ _ x=>(hxe _ _ x).elim)
   obtain ⟨x,H5,I5,r5,y5,st5,fr5⟩:=h5
   have I5':=I5.pinned (stat fr5) (T.obj _ _ st5)
   refine wpAny_bind (wpAny_mono (hg cl C s3 H3 fp _ s5 σ' H5 x u _ I5' r5 (step x H5 y5)) (fun _ s6 h6=>?_) fun _ _ x=>(hxe _ _ x).elim)
   obtain ⟨σ6,H6,I6,q6⟩:=h6
   have again:∀ {σ7:St} {H7:Hp} {s7:Shared} {ys7:List V},Inv (qaB X scope N cl C s3 H3 fp) ([] ++ qc6 fp s5.heap) σ7 H7 s7->(∃ m',m' < n/\W (i + 1) m' ys7 σ7 H7) ->
     ∃ m,m < n/\∃ i ys σ' H',Inv (qaB X scope N cl C s3 H3 fp) [] σ' H' s7/\tn i s7.heap/\(∀ b∈fp,H' b=none)/\W i m ys σ' H':=fun {σ7 H7 s7 ys7} I7 n7=>by
    obtain ⟨m',hm,w7⟩:=n7
    refine ⟨m',hm,i + 1,ys7,σ7,H7,I7.unpinned,T.keep _ _ _ st5 fun b hb o e=>(I7.pin (b,o) (List.mem_append_right _ (List.mem_append_right _ (qbb hb e)))).1,fun b hb=>?_,w7⟩
    obtain ⟨o,e,d⟩:=T.obj _ _ st5 b hb
    exact (I7.pin (b,o) (List.mem_append_right _ (List.mem_append_right _ (qbb hb e)))).2.1
   refine wpAny_bind (wpAny_mono (ht cl C s3 H3 fp _ s6 σ6 H6 _ I6 q6) (fun ok s7 h7=>?_) fun _ _ x=>(hxe _ _ x).elim)
   obtain ⟨H7,I7,q7⟩:=h7
   cases ok with
   | false =>
    rw [if_neg Bool.false_ne_true] at q7
    exact wpAny_pure ⟨rfl,again I7 q7⟩
   | true =>
    rw [if_pos rfl] at q7
    refine wpAny_bind (wpAny_bind (wpAny_mono (he cl C s3 H3 fp _ s7 σ6 H7 _ I7 q7) (fun y s8 h8=>?_) fun _ _ x=>(hxe _ _ x).elim))
    obtain ⟨v,H8,I8,r8,hz,hH8,w8⟩:=h8
    refine wpAny_bind (wpAny_mono (qes (X:=qaB X scope N cl C s3 H3 fp) _ s8 σ6 H8 (.ref p) [v] (.ref p) [y] (fun x H9=>x = .non/\H9=upd H8 p (.lst (ys ++ [v]))) I8 rfl (.cons r8 .nil) ⟨p,ys,v,rfl,rfl,hH8,hz,rfl,rfl⟩) (fun _ s9 h9=>?_) fun _ _ x=>(hxe _ _ x).elim)
    obtain ⟨z,H9,I9,_,_,e9⟩:=h9
    subst e9
    exact wpAny_pure (wpAny_pure ⟨rfl,again I9 w8⟩)
 exact codeAny_compStart_list loop (T.self X.A 0 _ _ _ st4 loop)
theorem qjQ {X:Cx}{elt tg iter:Expr}{ifs:List Expr}{scope:Scope}{pos spos py:Pos}{wi:TI}{g:TG}{tc:TT}{te:TE}{N:List Str}{σ0:St->St}{i:Nat}{y:Str}
  (hN:X.N.Nodup) (hiy:X.N[i]?=some y) (hy:Loc X.env.scope y)
  (hc:X.calm=true) (hxe:∀ e s,X.xe e s->False) (hcell:∀ y∈scope.names,y.2 ≠ .cell) (hkind:scope.kind = .function) (hnames:∀ y∈scope.names,y.2 = .local->scope.names.lookup y.1=some .local)
  (hfr:∀ y∈scope.names,y.2 = .free->X.env.kindOf y.1=some .cell\/X.env.kindOf y.1=some .free) (hσ:Sees X scope N σ0)
  (hi:PI X tg iter wi)
  (hg:∀ cl C s H ex,PG (qaB X scope N cl C s H ex) tg g) (ht:∀ cl C s H ex,PTs (qaB X scope N cl C s H ex) ifs tc) (he:∀ cl C s H ex,PE (qaB X scope N cl C s H ex) elt te)
  (hs:∀ x,foldedSetIterable iter X.env x=pure x:=by intro _; rfl) (hsw:swapsWith (.ListComp elt [⟨tg,iter,ifs,0⟩] scope pos) (some (.Name y py)) spos.line X.env=pure true:=by rfl)
  (hf:X.fn y=true\/X.env.scope.names.lookup y=some .local:=by first | exact .inl rfl | exact .inr rfl | assumption) :
  PS X (.Assign [.Name y py] (.ListComp elt [⟨tg,iter,ifs,0⟩] scope pos) spos) (tAsg (qid σ0 wi g tc te) (qez i)):=by
 intro pins s σ H D I h
 rw [exec_Assign_Name_used _ _ _ _ hsw]
 refine wpAny_bind (wpAny_standAt (wpAny_bind ?_))
 show wpAny _ X.A (do let _ <- comprehension (.ListComp elt [⟨tg,iter,ifs,0⟩] scope pos) scope X.env _ (newList []) false (eval iter X.env) (some (assign (.Name y py) X.env))) _ _ s
 refine wpAny_bind (wpAny_mono (qhS (use:=some (assign (.Name y py) X.env)) (QQ:=fun _ s'=>SP X pins D .next s') hc hxe hcell hkind hnames hfr hσ hi hg ht he hs I h ?_) (fun _ s' hq=>wpAny_pure (wpAny_pure hq)) fun _ _ e=>e)
 intro p C H' s' m f I5 fC hn back q
 show wpAny _ X.A (assign (.Name y py) X.env (.ref p)) _ _ _
 have hnC:=id hn
 obtain ⟨o,es,ep,ho,hd,_⟩:=hnC
 have Ip:=I5.pinned (fp:=[C]) (fun b hb=>by rw [List.mem_singleton.mp hb]; exact fC) (fun b hb=>⟨o,by rw [List.mem_singleton.mp hb]; exact ho,fun v z=>by rw [hd] at z; cases z⟩)
 refine wpAny_mono (pG (pos:=py) hN hiy hy hf (pins ++ qc6 [C] s'.heap) s' σ H' (.ref p) (.ref p) _ Ip rfl q) (fun _ s2 h2=>?_) fun _ _ e=>e
 obtain ⟨σ2,H2,I2,q2⟩:=h2
 have hp2:=I2.pin (C,o) (List.mem_append_right _ (List.mem_append_right _ (qbb (by simp) ho)))
 refine ⟨m,hn.at' (fun o' e=>?_),fun h' hsb=>⟨σ2,H2,?_,q2⟩⟩
 ·rw [ho] at e; cases e; exact hp2.1
 ·exact Inv.turned (it:=C) (t':=s2.toks) I2.unpinned (fun b o hb e=>hsb.extBut b o hb e) hp2.2.1 hp2.2.2.1 fC.2.2.2.1 fC.2.2.2.2.1 fC.2.2.2.2.2
section
variable {X:Cx}{e:Expr}{te:TE}{p2 p3 p4 pos:Pos}{k1:Nat}
def tRevL (K:PySem.W.Frag)(te:TE):TE:=fun σ H Q=>te σ H fun x H1=>∃ a xs,x = .ref a/\SqL K H1 a xs/\∀ p,H1 p=none->Q (.ref p) (upd H1 p (.lst xs.reverse))
theorem qjW {kk:_}(he:PE X e te):PE X (.Subscript e (.Slice none none (some (.UnaryOp .USub (.Constant (.int 1) kk p3) p4)) p2) pos) (tRevL X.K te):=by
 intro pins s σ H Q I h
 refine Subscript_ (thn (he pins s σ H _ I h) fun v s1 ⟨x,H1,I1,r1,q1⟩=>?_)
 obtain ⟨a,xs,rfl,hx,q⟩:=q1
 have hst:PO X (some (.UnaryOp .USub (.Constant (.int 1) kk p3) p4)) (qjx (tUn (rU fun i => .int (-i)) (tC (.int 1)))):=qaz (qf7 qds pI)
 refine wpAny_Slice ?_
 rw [evalPart_none]
 refine wpAny_pure (wpAny_pure ?_)
 refine thn (hst pins s1 σ H1 (fun st H2=>st=some (-1)/\H2=H1) I1 ?_) fun vk s2 h2=>?_
 ·exact ⟨_,rfl,_,rfl,rfl,rfl⟩
 obtain ⟨st,H2,I2,pk,rfl,rfl⟩:=h2
 have I4:Inv X pins σ H2 { s2 with heap:=s2.heap.push { cls := .type "slice",data := .fields #[.none,.none,vk] } }:=I2.kept (t':=s2.toks) fun b ob q=>Heap.get?_push_of_some _ q
 cases r1
 obtain ⟨its,r,ht,hz⟩:=I4.list hx
 have hlen:=r.length
 refine tail_any (T := "list") (ops:=[.ref a,.ref s2.heap.objs.size]) ht.isList.typeIs slot_list_getitem.lookup ?_ (by with_unfolding_all rfl)
 refine wpAny_getItem_list_slice ht.isList (Heap.IsSliceOf.new ..) .none .none pk (by decide) ?_ (by rw [List.size_toArray] <;> omega)
 rw [PySem.W.krv_pick]
 refine ⟨.ref _,_,I4.laid (t':=s2.toks) (o := .lst xs.reverse) (fun b ob q=>Heap.get?_push_of_some _ q) (Nat.le_refl _) ?_,rfl,q _ (I4.hok.fresh (Nat.le_refl _))⟩
 exact ⟨by rw [List.length_reverse]; exact hz,_,0,r.reverse,Heap.get?_push_size _ rfl⟩
end
end L2
namespace L2
open PySem PySem.Spec PyProof.Rows MA
theorem Sees.frees {X:Cx}{scope:Scope}(ks:List Str)(fs:List (Str × Nat))(h:∀ p∈fs,scope.names.lookup p.1=some .free/\X.N[p.2]?=some p.1) :
  Sees X scope (ks ++ fs.map (·.1)) (fun σ=>ks.map (fun _=>none) ++ fs.map fun p=>σ.getD p.2 none):=by
 intro σ
 refine ⟨by simp,fun i x v h1 h2=>?_⟩
 by_cases hi:i < ks.length
 ·rw [List.getElem?_append_left (by simpa using hi),List.getElem?_map] at h2
  cases e:ks[i]? with
  | none=>rw [e] at h2; cases h2
  | some y=>rw [e] at h2; cases h2
 ·rw [List.getElem?_append_right (by omega),List.getElem?_map] at h1
  rw [List.getElem?_append_right (by simp; omega),List.getElem?_map,List.length_map] at h2
  cases e:fs[i - ks.length]? with
  | none=>rw [e] at h1; cases h1
  | some p =>
   rw [e] at h1 h2
   cases h1
   obtain ⟨a,b⟩:=h p (List.mem_of_getElem? e)
   refine ⟨a,p.2,b,?_⟩
   have h3:σ.getD p.2 none=some v:=by simpa using h2
   rw [List.getD_eq_getElem?_getD] at h3
   cases z:σ[p.2]? with
   | none=>rw [z] at h3; cases h3
   | some u=>rw [z] at h3; exact congrArg some h3
end L2
namespace L2
open PySem
theorem qb0 {C:Str × Nat->Prop}:∀ p∈([]:List (Str × Nat)),C p:=fun _ h=>nomatch h
theorem qdi {C:Str × Nat->Prop}{a:Str × Nat}{l:List (Str × Nat)}(h:C a)(t:∀ p∈l,C p):∀ p∈a :: l,C p:=fun p hp=>(List.mem_cons.mp hp).elim (fun e=>e ▸ h) (t p)
theorem qbZ {scope:Scope}{env:Env}(h:scope.names.all (fun y=>y.2 != .free || env.kindOf y.1 == some .cell || env.kindOf y.1 == some .free)=true):∀ y∈scope.names,y.2 = .free->env.kindOf y.1=some .cell\/env.kindOf y.1=some .free:=by
 intro y hy hf
 have:=List.all_eq_true.mp h y hy
 rw [hf] at this
 simpa using this
end L2
namespace L2
open PySem PySem.Spec PyProof.Rows
end L2
namespace L2
open PySem PySem.Spec PyProof.Rows MA
def PrAt (H:Hp)(v:V)(p:Int × Int):Prop:=∃ a,v = .ref a/\H a=some (.tup [.int p.1,.int p.2])
end L2
namespace L2
open PySem PySem.Spec PyProof.Rows
section
variable {X:Cx}{e:Expr}{t:TA}{p p3 p4 pos:Pos}
def qkR (b:Bool)(t:TA):TE:=fun σ H Q=>t σ H fun vs H1=>∃ (l:Addr) (ns:List Int),vs=[.ref l]/\H1 l=some (.lst (ns.map V.int))/\ns.length < 64/\∀ (q:Addr) (ms:List Int),H1 q=none->ms.Perm ns->Ordered b ms->Q (.ref q) (upd H1 q (.lst (ms.map V.int)))
theorem qf8 {b:Bool}{kk:_}(hg:Gl X "sorted")(hm:X.mg "sorted" = none)(ha:PA X [e] t)
  (he:backTo pos (starEach [e] X.env)=(false,eval e X.env) :: backTo pos (starEach [] X.env):=by rfl) (hpl:(backTo pos (starEach [e] X.env)).any (·.1)=false:=by rfl) :
  PE X (.Call (.Name "sorted" p) [e] [⟨some "reverse",.Constant (.bool b) kk p3,p4⟩] pos) (qkR b t):=by
 intro pins s σ H Q I h
 refine wpAny_Call_Name_kw (qcJ I hg hm qeK ?_ (by decide) (by decide))
 refine callWith_kw (thn (ha pos pins s σ H _ I h) fun us s1 ⟨vs,H1,I1,r1,q1⟩=>?_) he hpl
 obtain ⟨l,ns,rfl,hl,h64,q⟩:=q1
 obtain ⟨u,rfl,ru⟩:=vals1 r1
 cases ru
 show wpAny _ X.A (evalAll [(do let v <- eval (.Constant (.bool b) kk p3) X.env; standAt pos; pure v)]) _ _ s1
 refine wpAny_evalAll_cons (wpAny_bind (Constant_bool (wpAny_bind (wpAny_standAt (wpAny_pure (wpAny_evalAll_nil ?_))))))
 show wpAny _ X.A (call (.builtin "sorted") [.ref l] [(Str.ofString "reverse",.bool b)]) _ _ _
 obtain ⟨its,rv,pl,hz⟩:=I1.list (SqL.of (K:=X.K) hl)
 have hlen:=rv.length
 rw [List.length_map] at hlen
 refine sorted_ints_rev pl.isList (intsAre_of rv) (by omega) fun out ms a1 a2 a3=>?_
 obtain ⟨ee,he'⟩:=sortedAll_at s1.heap its out
 have hml:ms.length=ns.length:=a2.length_eq
 refine ⟨.ref (s1.heap.objs.size + 1),_,I1.laid (t':=s1.toks) (a:=s1.heap.objs.size + 1) (o := .lst (ms.map V.int)) (fun b o q=>sortedAll_old q) (Nat.le_succ _) ⟨?_,out.toList,ee,qcU a1,?_⟩,rfl,q _ ms (I1.hok.fresh (Nat.le_succ _)) a2 a3⟩
 ·rw [List.length_map,hml,sizeLine_eq]; omega
 ·rw [he']
end
end L2
namespace L2
open PySem PySem.Spec PyProof.Rows MA
section
variable {X:Cx}
theorem qfQ:IxR X (fun x y H Q=>∃ p xs i v,x = .ref p/\y = .int i/\H p=some (.lst xs)/\atI xs i=some v/\Q v H):=by
 intro value slice pins s σ H x y v u Q I rx ry h hs
 obtain ⟨p,xs,i,w',e1,e2,hp,ha,q⟩:=h
 exact qa0 value slice pins s σ H x y v u Q I rx ry ⟨p,xs,i,w',e1,e2,SqL.of hp,ha,q⟩ hs
theorem qht:IxR X (fun x y H Q=>∃ p xs i v,x = .ref p/\y = .int i/\H p=some (.tup xs)/\atI xs i=some v/\Q v H):=by
 intro value slice pins s σ H x y v u Q I rx ry h hs
 obtain ⟨p,xs,i,w',e1,e2,hp,ha,q⟩:=h
 exact qay value slice pins s σ H x y v u Q I rx ry ⟨p,xs,i,w',e1,e2,SqT.of hp,ha,q⟩ hs
end
theorem qkD {K:PySem.W.Frag}{a:Addr}{xs:List V}{te:TE}{H:Hp}{R:Addr->Hp->Prop}{fs:St}(Pv:Addr->Nat->List V->Hp->Prop)(hn:xs.length≤100000)(hp0:∀ p,H p=none->Pv p 0 [] (upd H p (.lst [])))
  (hl:∀ p i ys H',H p=none->Pv p i ys H'->H' a=some (.tup xs))
  (hte:∀ p i ys H' x,H p=none->xs[i]?=some x->ys.length=i->Pv p i ys H'->H' p=some (.lst ys)->∀ Q':VK,(∀ v H'',H'' p=some (.lst ys)->Pv p (i + 1) (ys ++ [v]) (upd H'' p (.lst (ys ++ [v])))->Q' v H'')->te (some x :: fs) H' Q')
  (q:∀ p ys H',H p=none->Pv p xs.length ys H'->H' p=some (.lst ys)->ys.length=xs.length->R p H') :
  ∀ p,H p=none->∃ W:Nat->Nat->List V->St->Hp->Prop,(∃ m,W 0 m [] (none :: fs) (upd H p (.lst [])))/\∀ i m ys σ' H',W i m ys σ' H' ->
   ((Itt K a).stop i H'/\R p H')\/((Itt K a).go i H'/\∀ x H2,(Itt K a).yld i H' x H2->qez 0 x σ' H2 fun σ2 H3=>tTT σ2 H3 fun b H4=>if b=true then te σ2 H4 fun v H5=>ys.length < sizeLine/\H5 p=some (.lst ys)/\(∃ m',m' < m/\W (i + 1) m' (ys ++ [v]) σ2 (upd H5 p (.lst (ys ++ [v]))))
    else ∃ m',m' < m/\W (i + 1) m' ys σ2 H4):=by
 intro p hp
 refine ⟨fun i m ys σ' H'=>m=xs.length - i/\i≤xs.length/\ys.length=i/\Pv p i ys H'/\H' p=some (.lst ys)/\∃ o,σ'=o :: fs,⟨xs.length,by simp,Nat.zero_le _,rfl,hp0 p hp,uS,_,rfl⟩,?_⟩
 rintro i m ys σ' H' ⟨rfl,hi,hlen,pv,hp',o,rfl⟩
 have hla:=hl p i ys H' hp pv
 by_cases hlt:i < xs.length
 ·refine .inr ⟨⟨xs,xs[i],SqT.of hla,List.getElem?_eq_getElem hlt⟩,fun x H2 hy=>?_⟩
  obtain ⟨rfl,hx⟩:=hy
  have hx':=hx xs (SqT.of hla)
  change te (some x :: fs) H2 _
  refine hte p i ys H2 x hp hx' hlen pv hp' _ fun v H5 h5 pv5=>⟨?_,h5,xs.length - (i + 1),by omega,rfl,hlt,by simp [hlen],pv5,uS,_,rfl⟩
  rw [hlen,sizeLine_eq]; omega
 ·have e:i=xs.length:=by omega
  subst e
  exact .inl ⟨⟨xs,SqT.of hla,Nat.le_refl _⟩,q p ys H' hp pv hp' hlen⟩
section
variable {X:Cx}
def qjc (K:PySem.W.Frag):R2:=fun x y H Q=>∃ a b xs ys,x = .ref a/\y = .ref b/\SqT K H a xs/\SqT K H b ys/\xs.length + ys.length≤sizeLine /\
 (xs=[]->Q (.ref b) H)/\(xs≠[]->ys=[]->Q (.ref a) H)/\(xs≠[]->ys≠[]->∀ p,H p=none->Q (.ref p) (upd H p (.tup (xs ++ ys))))
theorem qfH:OpR X (binaryOp .Add) (qjc X.K):=by
 intro pins s σ H x y v u Q I rx ry h
 obtain ⟨a,b,xs,ys,e1,e2,ha,hb,hz,q0,q1,q2⟩:=h
 by_cases e:xs=[]
 ·subst e1 e2
  subst e
  cases rx
  cases ry
  obtain ⟨its,r1,p1,_⟩:=I.tuple ha
  obtain ⟨its2,r2,p2,_⟩:=I.tuple hb
  cases r1
  obtain ⟨⟨cls,dd,data,sl⟩,ho,hc,n,hd⟩:=id p1
  obtain ⟨⟨cls2,dd2,data2,sl2⟩,ho2,hc2,n2,hd2⟩:=id p2
  simp only at hc hd hc2 hd2
  subst hc hd hc2 hd2
  exact concat_meets ⟨_,ho,rfl⟩ ⟨_,ho2,rfl⟩ noFill_tuple_add seq_tuple_add PySem.F.slot_tuple_add PySem.F.entry_tuple_add (PySem.F.args_tuple_add_2 _ _)
   (tuple_addW0 a b [].toArray its2.toArray n n2 dd dd2 sl sl2 (by simp)) ⟨ho,ho2,⟨.ref b,H,I,rfl,q0 rfl⟩⟩
 ·exact qj8 pins s σ H x y v u Q I rx ry ⟨a,b,xs,ys,e1,e2,ha,hb,e,hz,q1 e,q2 e⟩
end
theorem qf1 (l:Addr)(items:Array Value)(n:Nat)(dd:Option Addr)(sl:Array (Option Value))(u:Tok) :
  Meets (Builtin.«tuple.__mul__» ⟨[.ref l,.int 1 u],[]⟩) (fun _ R s=>s.heap.get? l=some { cls := .type "tuple",dict:=dd,data := .seq items n,slots:=sl }/\R (.ok (.ret (Value.ref l))) { s with heap:=s.heap,toks:=s.toks }) :=
 .of_wp fun prog w A R s h=>by
  obtain ⟨hp,g,d,tk,os⟩:=s; obtain ⟨hl,h⟩:=h
  have f1:=AutoSeq1.idx_int; have f2:=AutoSeq1.sub_tuple_tuple; have f3:=AutoSeq1.sub_list_list; have f4:=AutoSeq1.sub_tuple_list; have f5:=AutoSeq1.sub_list_tuple
  wp_walk using wpAny_loadPart' hl
  exact ⟨_,rfl,h⟩
theorem qf2 (l:Addr)(items:Array Value)(n:Nat)(dd:Option Addr)(sl:Array (Option Value))(u:Tok)(he:¬ items.isEmpty=true) :
  Meets (Builtin.«tuple.__mul__» ⟨[.ref l,.int 0 u],[]⟩) (fun _ R s=>s.heap.get? l=some { cls := .type "tuple",dict:=dd,data := .seq items n,slots:=sl }/\R (.ok (.ret (Value.ref s.heap.objs.size))) { s with heap:=s.heap.push { cls:=Value.type "tuple",data:=Data.seq #[] },toks:=s.toks }) :=
 .of_wp fun prog w A R s h=>by
  obtain ⟨hp,g,d,tk,os⟩:=s; obtain ⟨hl,h⟩:=h
  have f1:=AutoSeq1.idx_int; have f2:=AutoSeq1.sub_tuple_tuple; have f3:=AutoSeq1.sub_list_list; have f4:=AutoSeq1.sub_tuple_list; have f5:=AutoSeq1.sub_list_tuple
  wp_walk using wpAny_loadPart' hl
  exact ⟨_,rfl,h⟩
theorem qf0 (l:Addr)(items:Array Value)(n:Nat)(dd:Option Addr)(sl:Array (Option Value))(x:Int)(u:Tok)(he:items.isEmpty=false)(h1:(decide (x < -(2 ^ 63)) || decide (x ≥ 2 ^ 63))=false)(h2:(x == 1)=false)(h3:decide (x≤0)=false)
  (h4:decide ((items.size:Int) * x > (2 ^ 63 - 1) / 8)=false) (h5:Builtin.Tuple.tupleTooMany ((items.size:Int) * x)=false) (h6:((List.replicate x.toNat items).foldl (· ++ ·) #[]).size≤sizeLine) :
  Meets (Builtin.«tuple.__mul__» ⟨[.ref l,.int x u],[]⟩) (fun _ R s=>s.heap.get? l=some { cls := .type "tuple",dict:=dd,data := .seq items n,slots:=sl }/\R (.ok (.ret (Value.ref s.heap.objs.size))) { s with heap:=s.heap.push { cls:=Value.type "tuple",data:=Data.seq ((List.replicate x.toNat items).foldl (· ++ ·) #[]) },toks:=s.toks }) :=
 .of_wp fun prog w A R s h=>by
  obtain ⟨hp,g,d,tk,os⟩:=s; obtain ⟨hl,h⟩:=h
  have f1:=AutoSeq1.idx_int; have f2:=AutoSeq1.sub_tuple_tuple; have f3:=AutoSeq1.sub_list_list; have f4:=AutoSeq1.sub_tuple_list; have f5:=AutoSeq1.sub_list_tuple
  wp_walk using wpAny_loadPart' hl
  refine wpAny_ite_false (by rw [h1]; rfl) ?_
  wp_walk using wpAny_loadPart' hl
  refine wpAny_ite_false h4 ?_
  wp_walk using wpAny_loadPart' hl
  first
  | exact ⟨_,rfl,h⟩
  | (refine wpAny_ite_false (by rw [h5]; rfl) ?_
     wp_walk using wpAny_loadPart' hl
     first
     | exact ⟨_,rfl,h⟩
     | (refine wpAny_ite_false (decide_eq_false (Nat.not_lt.mpr h6)) ?_
        wp_walk using wpAny_loadPart' hl
        exact ⟨_,rfl,h⟩))
  | (refine wpAny_ite_false (decide_eq_false (Nat.not_lt.mpr h6)) ?_
     wp_walk using wpAny_loadPart' hl
     exact ⟨_,rfl,h⟩)
theorem qcL:fillsNumberSlot (.type "tuple") "mul" = pure false :=
 PySem.fillsNumberSlot_seq (id := "tuple.__mul__") (r:=some (.builtin "tuple.__rmul__")) F.slot_tuple_mul.lookup (by decide +kernel) F.slot_tuple_rmul.lookup (by decide +kernel)
theorem qek:seqRepeat? (.type "tuple")=pure (some (.builtin "tuple.__mul__")):=by
 unfold seqRepeat?
 rw [PySem.seqSlot_of (T := "tuple") (name := "__mul__") (id := "tuple.__mul__") F.slot_tuple_mul.lookup (by decide +kernel),PySem.seqSlot_of (T := "tuple") (name := "__rmul__") (id := "tuple.__rmul__") F.slot_tuple_rmul.lookup (by decide +kernel)]
 rfl
theorem qdr (a:Int)(t:Tok)(l:Addr)(items:Array Value)(n:Nat)(d:Option Addr)(sl:Array (Option Value)) :
  Meets (Builtin.«int.__rmul__» ⟨[.int a t,.ref l],[]⟩) (fun _ R s=>s.heap.get? l=some { cls := .type "tuple",dict:=d,data := .seq items n,slots:=sl }/\R (.ok (.ret Value.notImplemented)) s) :=
 .of_wp fun prog w A R s h=>by obtain ⟨hp,g,d,tk,os⟩:=s; obtain ⟨hl,h⟩:=h; wp_walk; exact ⟨_,rfl,h⟩
theorem qdB {α:Type}(its:List α):∀ (m:Nat) (acc:List α),List.foldl (fun x1 x2=>x1 ++ x2) acc.toArray (List.replicate m its.toArray)=(acc ++ (List.replicate m its).flatten).toArray
 | 0,acc=>by simp
 | m + 1,acc=>by
  rw [List.replicate_succ,List.foldl_cons,List.replicate_succ,List.flatten_cons]
  have:acc.toArray ++ its.toArray=(acc ++ its).toArray:=by simp
  rw [this,qdB its m (acc ++ its),List.append_assoc]
section
variable {X:Cx}
theorem qj1:OpR X (binaryOp .Mult) (fun x y H Q=>∃ l k xs,x = .ref l/\y = .int k/\H l=some (.tup xs)/\xs≠[]/\0≤k/\k≤1000/\xs.length≤1000 /\
  (k=1->Q (.ref l) H)/\(k≠1->∀ p,H p=none->Q (.ref p) (upd H p (.tup (List.replicate k.toNat xs).flatten)))):=by
 intro pins s σ H x y v u Q I rx ry h
 obtain ⟨l,k,xs,rfl,rfl,hH,hne,k0,k1,hx,q1,q2⟩:=h
 cases rx
 obtain ⟨t,rfl⟩:=ry
 obtain ⟨its,r,p1,hz⟩:=I.tuple (SqT.of (K:=X.K) hH)
 have hlen:=r.length
 have hne':its≠[]:=fun z=>hne (r.nil_iff.mp z)
 obtain ⟨⟨cls,dd,data,sl⟩,ho,hc,n,hd⟩:=id p1
 simp only at hc hd
 subst hc hd
 refine wpAny_binaryOp_repeat_ref (T := "tuple") (U := "int") (by decide) ⟨_,ho,rfl⟩ (fun s'=>typeIs_int s' k t) qcL F.fills_int_mul F.slot_int_rmul qek F.slot_int_index.lookup
  (call_meets F.slot_int_rmul (typeIs_int s k t) F.entry_int_rmul (F.args_int_rmul_2 _ _) (qdr k t l its.toArray n dd sl) ⟨ho,rfl,⟨_,ho,rfl⟩,?_⟩)
 have new:∀ zs:List V,∀ us:List Value,Vals zs us->zs.length≤sizeLine->(∀ p,H p=none->Q (.ref p) (upd H p (.tup zs)))->EP X pins σ Q (.ref s.heap.objs.size) { s with heap:=s.heap.push { cls := .type "tuple",data := .seq us.toArray } }:=fun zs us rz hzs hq =>
  ⟨.ref s.heap.objs.size,_,I.laid (t':=s.toks) (o := .tup zs) (fun b ob q=>Heap.get?_push_of_some _ q) (Nat.le_refl _) ⟨hzs,_,rz,qbI.new _ _⟩,rfl,hq _ (I.hok.fresh (Nat.le_refl _))⟩
 by_cases e1:k=1
 ·subst e1
  exact call_meets F.slot_tuple_mul ⟨_,ho,rfl⟩ F.entry_tuple_mul (F.args_tuple_mul_2 _ _) (qf1 l its.toArray n dd sl t) ⟨ho,⟨.ref l,H,I,rfl,q1 rfl⟩⟩
 by_cases e0:k=0
 ·subst e0
  exact call_meets F.slot_tuple_mul ⟨_,ho,rfl⟩ F.entry_tuple_mul (F.args_tuple_mul_2 _ _) (qf2 l its.toArray n dd sl t (by simpa using hne')) ⟨ho,new [] [] .nil (by simp) (q2 (by decide))⟩
 have hfold:List.foldl (fun x1 x2=>x1 ++ x2) #[] (List.replicate k.toNat its.toArray)=(List.replicate k.toNat its).flatten.toArray:=by
  have:=qdB its k.toNat []
  simpa using this
 have hsz:(its.length:Int) * k≤1000 * 1000:=Int.mul_le_mul (by omega) k1 k0 (by decide)
 have hflat:(List.replicate k.toNat its).flatten.length≤sizeLine:=by
  rw [len_rep]
  have:k.toNat * its.length≤1000 * 1000:=Nat.mul_le_mul (by omega) (by omega)
  rw [sizeLine_eq]; omega
 refine call_meets F.slot_tuple_mul ⟨_,ho,rfl⟩ F.entry_tuple_mul (F.args_tuple_mul_2 _ _) (qf0 l its.toArray n dd sl k t (by simpa using hne') ?_ (by simpa using e1) (by simp; omega) ?_ ?_ (by rw [hfold]; simpa using hflat)) ⟨ho,?_⟩
 ·simp; omega
 ·simp; omega
 ·unfold Builtin.Tuple.tupleTooMany
  rw [List.size_toArray,sizeLine_eq]
  simp
  omega
 ·rw [hfold]
  refine new _ _ (r.rep k.toNat) ?_ (q2 e1)
  rw [len_rep]
  have:k.toNat * xs.length≤1000 * 1000:=Nat.mul_le_mul (by omega) (by omega)
  rw [sizeLine_eq]; omega
end
end L2
namespace L2
open PySem PySem.Spec PyProof.Rows
section
variable {X:Cx}{pins:List (Addr × Obj)}{σ:St}{H:Hp}{s:Shared}{h':Heap}{fp:List Addr}
theorem Inv.turnedL {t':Nat}(I:Inv X pins σ H s)(hf:∀ b∈fp,FpOk X pins H b)(k:∀ b o,b ∉ fp->s.heap.get? b=some o->h'.get? b=some o):Inv X pins σ H { s with heap:=h',toks:=t' }:=by
 have nit:∀ b u,H b=some u->b ∉ fp:=fun b u e z=>by rw [(hf b z).1] at e; cases e
 have hL:X.env.locals ∉ fp:=fun z=>(hf _ z).2.1 rfl
 refine I.step (g':=s.gens) (d':=s.drawn) (ch:=fp) (fun b hb=>⟨(hf b hb).2.2.2.1,(hf b hb).2.1,(hf b hb).2.2.2.2.1,(hf b hb).2.2.2.2.2⟩) (fun b o _ _ hc e _=>k b o hc e) (fun b o _ _ hc e _=>⟨o.slots,k b o hc e⟩) (fun _ _ _ _ n=>n)
  (fun b o hc e=>⟨o,k b o hc e⟩) (fun _ _ e=>e) (fun _ _ _ e=>e) (fun b ps e=>⟨#[],by rw [e]; simp⟩) (fun m hm=>?_) (fun b u e=>?_) I.bare
 ·obtain ⟨o,es,ep,ho,r⟩:=hm
  exact ⟨o,es,ep,k _ o hL ho,r⟩
 ·refine (I.hok b u e).stay (fun c v hc q=>k c v ?_ q) (fun _ q=>q) fun _ _ q=>q
  rcases hc with z | z
  ·rw [z]; exact nit b u e
  ·exact nit c _ z
theorem Inv.turnedNew {t':Nat}{T:Addr}{u:HO}(I:Inv X pins σ H s)(hf:∀ b∈fp,FpOk X pins H b)(k:∀ b o,b ∉ fp->s.heap.get? b=some o->h'.get? b=some o)(hT:s.heap.objs.size≤T)(new:qaV X.prog X.w (upd H T u) h' T u) :
  Inv X pins σ (upd H T u) { s with heap:=h',toks:=t' }:=by
 have hn:H T=none:=I.hok.fresh hT
 have nit:∀ b u,H b=some u->b ∉ fp:=fun b u e z=>by rw [(hf b z).1] at e; cases e
 have hL:X.env.locals ∉ fp:=fun z=>(hf _ z).2.1 rfl
 have nT:∀ b o,s.heap.get? b=some o->b≠T:=fun b o e=>Nat.ne_of_lt (Nat.lt_of_lt_of_le (Heap.lt_size e) hT)
 refine I.step (g':=s.gens) (d':=s.drawn) (ch:=fp) (fun b hb=>⟨(hf b hb).2.2.2.1,(hf b hb).2.1,(hf b hb).2.2.2.2.1,(hf b hb).2.2.2.2.2⟩) (fun b o _ _ hc e _=>k b o hc e) (fun b o _ _ hc e _=>⟨o.slots,k b o hc e⟩) (fun b o _ e n=>by rw [uE (nT b o e)]; exact n)
  (fun b o hc e=>⟨o,k b o hc e⟩) (fun b xs e=>by rw [uE (qaf e hn)]; exact e) (fun b o v e=>by rw [uE (qaf e hn)]; exact e) (fun b ps e=>⟨#[],by rw [uE (qaf e hn),e]; simp⟩) (fun m hm=>?_) (fun b v e=>?_) I.bare
 ·obtain ⟨o,es,ep,ho,r⟩:=hm
  exact ⟨o,es,ep,k _ o hL ho,r⟩
 ·by_cases hb:b=T
  ·subst hb; rw [uS] at e; cases e; exact new
  ·rw [uE hb] at e
   refine (I.hok b v e).stay (fun c v' hc q=>k c v' ?_ q) (fun c q=>by rw [uE (qaf q hn)]; exact q) (fun c xs q=>by rw [uE (qaf q hn)]; exact q) fun c ob q=>by rw [uE (qaf q hn)]; exact q
   rcases hc with z | z
   ·rw [z]; exact nit b v e
   ·exact nit c _ z
end
def Itz (K:PySem.W.Frag)(a b:Addr):It :=
 ⟨fun i H=>∃ xs ys x y,SqL K H a xs/\SqL K H b ys/\xs[i]?=some x/\ys[i]?=some y,
  fun i H v H'=>∃ p x y,v = .ref p/\H p=none/\H'=upd H p (.tup [x,y])/\∀ xs ys,SqL K H a xs->SqL K H b ys->xs[i]?=some x/\ys[i]?=some y,
  fun i H=>∃ xs ys,SqL K H a xs/\SqL K H b ys/\(xs.length≤i\/ys.length≤i)⟩
theorem qib {P:Program}{w:World}{K:PySem.W.Frag}{elts:List Expr}{c:Nat}{pos:Pos}{z TI TO i1 i2 a b:Addr}(D:ZipApart z TI TO i1 i2 a b) :
  Turn P w K (.Tuple elts c pos) (Itz K a b) [z,TI,TO,i1,i2] z (fun i h=>IsZip h z TI TO .none/\IsPair h TI (.ref i1) (.ref i2)/\(∃ u v,IsPair h TO u v)/\h.IsListIter i1 a i/\h.IsListIter i2 b i) where
 mem:=by simp
 obj:=fun i h st x hx=>by
  obtain ⟨hz,hTI,⟨u,v,hTO⟩,⟨o1,e1,c1,d1⟩,o2,e2,c2,d2⟩:=st
  simp only [List.mem_cons,List.not_mem_nil,or_false] at hx
  rcases hx with rfl | rfl | rfl | rfl | rfl
  ·exact ⟨_,hz,fun _ q=>by cases q⟩
  ·exact ⟨_,hTI,fun _ q=>by cases q⟩
  ·exact ⟨_,hTO,fun _ q=>by cases q⟩
  ·exact ⟨_,e1,fun _ q=>by rw [d1] at q; cases q⟩
  ·exact ⟨_,e2,fun _ q=>by rw [d2] at q; cases q⟩
 keep:=fun i h h' st k=>by
  obtain ⟨hz,hTI,⟨u,v,hTO⟩,h1,h2⟩:=st
  exact ⟨k z (by simp) _ hz,k TI (by simp) _ hTI,⟨u,v,k TO (by simp) _ hTO⟩,h1.at fun o e=>k i1 (by simp) o e,h2.at fun o e=>k i2 (by simp) o e⟩
 item:=by
  intro X hP hw hK hc i pins s σ H E I hf st hg
  subst hP hw hK
  obtain ⟨xs,ys,x,y,hq1,hq2,hx,hy⟩:=hg
  obtain ⟨its1,rv1,p1,_⟩:=I.list hq1
  obtain ⟨its2,rv2,p2,_⟩:=I.list hq2
  obtain ⟨u,hu,ru⟩:=rv1.get hx
  obtain ⟨v,hv,rv⟩:=rv2.get hy
  obtain ⟨hz,hTI,⟨u0,v0,hTO⟩,h1,h2⟩:=st
  refine wpAny_pyNext_zip_item D hz hTI hTO h1 h2 p1.isList p2.isList (x:=u) (y:=v) (by simpa using hu) (by simpa using hv) fun h' a1 a2 a3 a4 a5 a6 hk=>⟨_,rfl,?_⟩
  have lt:∀ {c o},s.heap.get? c=some o->s.heap.objs.size≠c:=fun e=>Nat.ne_of_gt (Heap.lt_size e)
  refine wpAny_letOwnedTupleGo_zip (s:={ s with heap:=h' }) a1 fun h'' b1 sb=>?_
  have hn:H s.heap.objs.size=none:=I.hok.fresh (Nat.le_refl _)
  have kk:∀ c o,c ∉ [z,TI,TO,i1,i2]->s.heap.get? c=some o->h''.get? c=some o:=fun c o hc' e=>by
   simp only [List.mem_cons,List.not_mem_nil,or_false,not_or] at hc'
   obtain ⟨n1,n2,n3,n4,n5⟩:=hc'
   exact sb.extBut _ _ n1 (hk c o n1 n3 n4 n5 e)
  have T1:IsPair h'' s.heap.objs.size u v:=sb.extBut _ _ (lt hz) a5
  refine ⟨.ref s.heap.objs.size,upd H s.heap.objs.size (.tup [x,y]),I.turnedNew (t':=s.toks) hf kk (Nat.le_refl _) ⟨by show 2≤_; decide,[u,v],.cons ru (.cons rv .nil),_,T1,rfl,_,rfl,rfl⟩,rfl,⟨_,x,y,rfl,hn,rfl,fun xs' ys' q1 q2=>?_⟩,⟨b1,?_,⟨_,_,sb.extBut _ _ D.TOz a2⟩,a3.extBut sb.extBut D.i1z,a4.extBut sb.extBut D.i2z⟩,fun b hb=>?_⟩
  ·rw [I.list_inj q1 hq1,I.list_inj q2 hq2]; exact ⟨hx,hy⟩
  ·exact sb.extBut _ _ D.TIz (hk _ _ D.TIz D.TITO D.TIi1 D.TIi2 hTI)
  ·rw [uE]
   ·exact (hf b hb).1
   ·simp only [List.mem_cons,List.not_mem_nil,or_false] at hb
    obtain ⟨o1,e1,_,_⟩:=h1
    obtain ⟨o2,e2,_,_⟩:=h2
    rcases hb with rfl | rfl | rfl | rfl | rfl
    ·exact (lt hz).symm
    ·exact (lt hTI).symm
    ·exact (lt hTO).symm
    ·exact (lt e1).symm
    ·exact (lt e2).symm
 done:=by
  intro X hP hw hK hc i pins s σ H E I hf st hg
  subst hP hw hK
  obtain ⟨xs,ys,hq1,hq2,hx⟩:=hg
  obtain ⟨its1,rv1,p1,_⟩:=I.list hq1
  obtain ⟨its2,rv2,p2,_⟩:=I.list hq2
  have l1:=rv1.length
  have l2:=rv2.length
  obtain ⟨hz,hTI,⟨u0,v0,hTO⟩,h1,h2⟩:=st
  refine wpAny_pyNext_zip_end (I.ok.hd hc) D hz hTI hTO h1 h2 p1.isList p2.isList (by simp; omega) fun h' hk=>⟨rfl,I.turnedL (t':=s.toks) hf fun c o hc' e=>?_⟩
  simp only [List.mem_cons,List.not_mem_nil,or_false,not_or] at hc'
  obtain ⟨n1,n2,n3,n4,n5⟩:=hc'
  exact hk c o n1 n3 n4 n5 e
 self:=fun _ _ _ _ _ st h=>wpAny_pyIter_zip st.1 h
def iZip (K:PySem.W.Frag)(ta:TA):TI:=fun σ H R=>ta σ H fun vs H1=>∃ a b,vs=[.ref a,.ref b]/\(∃ xs,SqL K H1 a xs)/\(∃ ys,SqL K H1 b ys)/\R (Itz K a b) H1
theorem qd7 {n a b:Nat}(ha:a < n)(hb:b < n):ZipApart (n + 4) (n + 2) (n + 3) n (n + 1) a b:=by
 constructor <;> (show ¬ ((_:Nat)=_)) <;> omega
theorem boot_zip:bootBuiltins "zip" = some (.type "zip"):=by decide +kernel
theorem qla {X:Cx}{elts:List Expr}{c:Nat}{tpos:Pos}{a b:Expr}{ta:TA}{p pos:Pos}(hg:Gl X "zip")(hm:X.mg "zip" = none)(ha:PA X [a,b] ta)(hs:starEach [a,b] X.env=[(false,eval a X.env),(false,eval b X.env)]:=by rfl)(hs2:starEach [b] X.env=[(false,eval b X.env)]:=by rfl) :
  PI X (.Tuple elts c tpos) (.Call (.Name "zip" p) [a,b] [] pos) (iZip X.K ta):=by
 intro pins s σ H R I h
 refine Call_ (qcJ I hg hm boot_zip (PyProof.Rows.callWith_type1 (thn (ha pos pins s σ H _ I h) fun us s1 ⟨vs,H1,I1,r1,q1⟩=>?_) (by rw [hs,hs2]) (by rw [hs2]; rfl)))
 obtain ⟨a,b,e,⟨xs,hq1⟩,⟨ys,hq2⟩,q⟩:=q1
 subst e
 cases r1 with
 | cons r rr =>
  cases rr with
  | cons r' rr =>
   cases rr
   cases r
   cases r'
   obtain ⟨its1,rv1,p1,_⟩:=I1.list hq1
   obtain ⟨its2,rv2,p2,_⟩:=I1.list hq2
   have la:a < s1.heap.objs.size:=by obtain ⟨o,n,e,_⟩:=p1; exact Heap.lt_size e
   have lb:b < s1.heap.objs.size:=by obtain ⟨o,n,e,_⟩:=p2; exact Heap.lt_size e
   refine call_zip_2 p1.isList p2.isList fun h' a1 a2 a3 a4 a5 a6 hk=>wpAny_pyIter_zip a1 ?_
   have D:ZipApart (s1.heap.objs.size + 4) (s1.heap.objs.size + 2) (s1.heap.objs.size + 3) s1.heap.objs.size (s1.heap.objs.size + 1) a b:=qd7 la lb
   refine ⟨_,_,_,_,H1,rfl,I1.kept (t':=s1.toks) hk,qib D,⟨a1,a2,⟨_,_,a3⟩,a4,a5⟩,fun x hx=>?_,q⟩
   have hx':s1.heap.objs.size≤x:=by
    simp only [List.mem_cons,List.not_mem_nil,or_false] at hx
    rcases hx with rfl | rfl | rfl | rfl | rfl <;> (show (_:Nat)≤(_:Nat)) <;> omega
   exact I1.fpOk hx' (I1.hok.fresh hx')
end L2
namespace My
open PySem L2 MA
end My
namespace L2
open PySem PySem.Spec PyProof.Rows
def qlG (n:Nat)(t:TGs):TG:=fun v σ H Q=>∃ a xs,v = .ref a/\H a=some (.tup xs)/\xs.length=n/\t xs σ H Q
theorem qcr {X:Cx}{pos:Pos}{es:List Expr}{k:Nat}{t:TGs}{n:Nat}(hc:X.calm=true)(h:PGs X es t)
  (hn:(assignEach es X.env).length=n:=by rfl) (hst:(assignEach es X.env).findIdx? (·.1)=none:=by rfl):PG X (.Tuple es k pos) (qlG n t):=by
 intro pins s σ H v u Q I r hw
 obtain ⟨a,xs,e1,hq,hl,hw⟩:=hw
 exact qbW hc h hn hst pins s σ H v u Q I r ⟨a,xs,e1,SqT.of hq,hl,hw⟩
end L2
namespace My
open PySem L2 MA
end My
namespace L2
open PySem PySem.Spec PyProof.Rows
section
variable {prog:Program}{w:World}{A:Around}{E:Value->Shared->Prop}{s:Shared}
theorem qcI {it t:Addr}{i:Nat}{its:Array Value}{x:Value}{Q:Value->Shared->Prop}(hi:s.heap.IsTupleIter it t i)(hs:s.heap.IsTuple t its)(hx:its[i]?=some x)
  (k:∀ h',h'.IsTupleIter it t (i + 1)->Heap.SameBut it s.heap h'->Q x { s with heap:=h' }):wpAny (model prog w) A (Builtin.SmallTypes.nextOf (.ref it)) Q E s:=by
 obtain ⟨ob,e1,e2,e3⟩:=id hi
 obtain ⟨oq,f1,f2,n,f3⟩:=hs
 unfold Builtin.SmallTypes.nextOf
 refine wpAny_bind (wpAny_callSpecial?_slot (name:=Str.ofString "__next__") hi.typeIs F.slot_tuple_iterator_next (wpAny_call_entry F.slot_tuple_iterator_next hi.typeIs F.entry_tuple_iterator_next ?_ (F.args_tuple_iterator_next_1 _)))
 refine wpAny_bind (m:=field (.ref it) 0) (wpAny_field e1 e3 (x := .ref t) rfl ?_)
 show wpAny (model prog w) _ (if (Value.ref t == Value.none)=true then _ else _) _ _ s
 rw [if_neg (by intro z; cases z)]
 refine wpAny_bind (m:=field (.ref it) 1) (wpAny_field e1 e3 (x := .int i 0) rfl ?_)
 refine wpAny_bind (m:=seqItems? (.ref t)) (wpAny_seqItems f1 f3 ?_)
 simp only [hx,Int.toNat_natCast]
 refine wpAny_bind (wpAny_setField e1 e3 (by simp) (wpAny_pure ⟨x,rfl,wpAny_pure (k _ ⟨_,Heap.get?_update_self _ e1 (Obj.isFreed_of_fields (Obj.data_mapFields e3 _)),(Obj.cls_mapFields ..).trans e2,?_⟩ (Heap.SameBut.update ..))⟩))
 rw [Obj.data_mapFields e3]
 simp [rawInt]
theorem qdb {it t:Addr}{i:Nat}{its:Array Value}{Q:Value->Shared->Prop}(hh:A.handled=none)(hi:s.heap.IsTupleIter it t i)(hs:s.heap.IsTuple t its)(hx:its[i]?=none)
  (k:∀ h' e,Heap.ExtBut it s.heap h'->(∃ o,h'.get? e=some o/\o.cls = .type "StopIteration")->E (.ref e) { s with heap:=h' }):wpAny (model prog w) A (Builtin.SmallTypes.nextOf (.ref it)) Q E s:=by
 obtain ⟨ob,e1,e2,e3⟩:=id hi
 obtain ⟨oq,f1,f2,n,f3⟩:=hs
 unfold Builtin.SmallTypes.nextOf
 refine wpAny_bind (wpAny_callSpecial?_slot (name:=Str.ofString "__next__") hi.typeIs F.slot_tuple_iterator_next (wpAny_call_entry F.slot_tuple_iterator_next hi.typeIs F.entry_tuple_iterator_next ?_ (F.args_tuple_iterator_next_1 _)))
 refine wpAny_bind (m:=field (.ref it) 0) (wpAny_field e1 e3 (x := .ref t) rfl ?_)
 show wpAny (model prog w) _ (if (Value.ref t == Value.none)=true then _ else _) _ _ s
 rw [if_neg (by intro z; cases z)]
 refine wpAny_bind (m:=field (.ref it) 1) (wpAny_field e1 e3 (x := .int i 0) rfl ?_)
 refine wpAny_bind (m:=seqItems? (.ref t)) (wpAny_seqItems f1 f3 ?_)
 simp only [hx,Int.toNat_natCast]
 refine wpAny_bind (wpAny_rule (wpAny_bind (wpAny_setField e1 e3 (by simp) (wpAny_bind (m:=newExc (.type "StopIteration") []) ?_))))
 simp only [newTuple,newExc]
 refine wpAny_bind (wpAny_newObj_type (wpAny_bind (m:=firstArgMember _ _) (wpAny_of_eq (a:=Value.none) (by first | rfl | (simp only [firstArgMember]; rfl)) (wpAny_newObj_type ?_ (by size_fits)))) (by size_fits))
 simp only [raiseNew]
 refine wpAny_bind (wpAny_handled ?_)
 rw [show A.in1.handled=none from hh]
 refine wpAny_bind (wpAny_pure (wpAny_throw (k _ _ (((Heap.SameBut.update ..).extBut.push _).push _) ⟨_,Heap.get?_push_size _ rfl,rfl⟩)))
end
def IsB (h:Heap):Bool->Addr->Array Value->Prop
 | true=>h.IsList
 | false=>h.IsTuple
def qa9 (h:Heap):Bool->Addr->Addr->Nat->Prop
 | true=>h.IsListIter
 | false=>h.IsTupleIter
def SqB (K:PySem.W.Frag)(H:Hp):Bool->Addr->List V->Prop
 | true=>SqL K H
 | false=>SqT K H
theorem IsB.at {h h':Heap}{b:Bool}{a:Addr}{its:Array Value}(x:IsB h b a its)(k:∀ o,h.get? a=some o->h'.get? a=some o):IsB h' b a its:=by
 cases b <;> (obtain ⟨o,e,r⟩:=x; exact ⟨o,k o e,r⟩)
theorem qa9.at {h h':Heap}{b:Bool}{a l:Addr}{i:Nat}(x:qa9 h b a l i)(k:∀ o,h.get? a=some o->h'.get? a=some o):qa9 h' b a l i:=by
 cases b <;> (obtain ⟨o,e,r⟩:=x; exact ⟨o,k o e,r⟩)
theorem qa9.ob {h:Heap}{b:Bool}{a l:Addr}{i:Nat}(x:qa9 h b a l i):∃ o,h.get? a=some o/\∀ v,o.data ≠ .cell v:=by
 cases b <;> (obtain ⟨o,e,_,d⟩:=x; exact ⟨o,e,fun v z=>by rw [d] at z; cases z⟩)
theorem IsB.lt {h:Heap}{b:Bool}{a:Addr}{its:Array Value}(x:IsB h b a its):a < h.objs.size:=by
 cases b <;> (obtain ⟨o,e,_⟩:=x; exact Heap.lt_size e)
theorem qlN {prog:Program}{w:World}{A:Around}(hh:A.handled=none)(b:Bool)(it l:Addr)(hne:l≠it)(its:Array Value) :
  Draws prog w A it [it,l] its.size (fun i v=>its[i]?=some v) (fun i h=>qa9 h b it l i/\IsB h b l its):=by
 cases b with
 | true=>exact Draws.list hh it l hne its
 | false =>
  exact {
   live:=fun _ _ st=>let ⟨o,ho,_⟩:=st.1; ⟨o,ho⟩
   frame:=fun _ _ _ st hk=>⟨st.1.at fun o e=>hk it (by simp) o e,st.2.at fun o e=>hk l (by simp) o e⟩
   item:=fun i s Q E hi st hQ=>qcI st.1 st.2 (x:=its[i]) (by simp [hi]) fun h' a sb=>hQ _ h' s.toks (by simp [hi]) ⟨a,st.2.at fun o e=>(sb.2 l hne).trans e⟩ sb
   done:=fun s Q E st hE=>qdb hh st.1 st.2 (by simp) hE }
section
variable {X:Cx}{pins:List (Addr × Obj)}{σ:St}{H:Hp}{s:Shared}{a:Addr}{xs ys:List V}{b:Bool}
theorem Inv.seqB (I:Inv X pins σ H s)(h:SqB X.K H b a xs):∃ its:List Value,Vals xs its/\IsB s.heap b a its.toArray/\xs.length≤sizeLine:=by
 cases b with
 | true=>obtain ⟨its,r,p,z⟩:=I.list h; exact ⟨its,r,p.isList,z⟩
 | false=>obtain ⟨its,r,p,z⟩:=I.tuple h; exact ⟨its,r,p,z⟩
theorem Inv.seqB_inj (I:Inv X pins σ H s)(h:SqB X.K H b a xs)(h':SqB X.K H b a ys):xs=ys:=by
 cases b with
 | true=>exact I.list_inj h h'
 | false=>exact I.tuple_inj h h'
end
section
variable {prog:Program}{w:World}{A:Around}{E:Value->Shared->Prop}{s:Shared}
theorem qdc {b:Bool}{it t:Addr}{i:Nat}{its:Array Value}{x:Value}{Q:Value->Shared->Prop}(hi:qa9 s.heap b it t i)(hs:IsB s.heap b t its)(hx:its[i]?=some x)
  (k:∀ h',qa9 h' b it t (i + 1)->Heap.SameBut it s.heap h'->Q x { s with heap:=h' }):wpAny (model prog w) A (Builtin.SmallTypes.nextOf (.ref it)) Q E s:=by
 cases b with
 | true=>exact wpAny_nextOf_list_item hi hs hx k
 | false=>exact qcI hi hs hx k
theorem qdV {b:Bool}{it t:Addr}{i:Nat}{its:Array Value}{Q:Value->Shared->Prop}(hh:A.handled=none)(hi:qa9 s.heap b it t i)(hs:IsB s.heap b t its)(hx:its[i]?=none)
  (k:∀ h' e,Heap.ExtBut it s.heap h'->(∃ o,h'.get? e=some o/\o.cls = .type "StopIteration")->E (.ref e) { s with heap:=h' }):wpAny (model prog w) A (Builtin.SmallTypes.nextOf (.ref it)) Q E s:=by
 cases b with
 | true=>exact wpAny_nextOf_list_end hh hi hs hx k
 | false=>exact qdb hh hi hs hx k
theorem qgr {z TI TO i1 i2 l1 l2:Addr}{b1 b2:Bool}{k:Nat}{xs ys:Array Value}{x y u v:Value}{Q:Value->Shared->Prop}(D:ZipApart z TI TO i1 i2 l1 l2)
  (hz:IsZip s.heap z TI TO .none) (p1:IsPair s.heap TI (.ref i1) (.ref i2)) (p2:IsPair s.heap TO u v) (j1:qa9 s.heap b1 i1 l1 k) (j2:qa9 s.heap b2 i2 l2 k) (q1:IsB s.heap b1 l1 xs) (q2:IsB s.heap b2 l2 ys) (hx:xs[k]?=some x) (hy:ys[k]?=some y)
  (K:∀ h',IsZip h' z TI TO (rawInt s.heap.objs.size)->IsPair h' TO x y->qa9 h' b1 i1 l1 (k + 1)->qa9 h' b2 i2 l2 (k + 1)->IsPair h' s.heap.objs.size x y ->
    (∀ c o,c≠z->c≠TO->c≠i1->c≠i2->s.heap.get? c=some o->h'.get? c=some o)->Q (.ref s.heap.objs.size) { s with heap:=h' }) :
  wpAny (model prog w) A (Builtin.«zip.__next__» ⟨[.ref z],[]⟩) (fun fin s'=>∃ v,fin = .done (.ret v)/\Q v s') E s:=by
 refine wpAny_bind (m:=field (.ref z) 2) (wpAny_field hz rfl (x := .bool false) rfl (wpAny_bind (m:=field (.ref z) 3) (wpAny_field hz rfl (x := .ref TI) rfl (wpAny_bind (wpAny_seqItems p1 rfl (wpAny_bind (m:=Builtin.SmallTypes.ownedTupleIsFree (.ref z)) ?_))))))
 unfold Builtin.SmallTypes.ownedTupleIsFree
 refine wpAny_bind (wpAny_field hz rfl (x := .none) rfl (wpAny_pure ?_))
 simp only [if_true]
 refine wpAny_bind (wpAny_rule (wpAny_bind (wpAny_field hz rfl (x := .ref TO) rfl (wpAny_bind (wpAny_setField_rec hz (by simp) fun g1 z1 s1=>?_)))))
 replace z1:IsZip g1 z TI TO .ellipsis:=z1
 refine wpAny_bind ?_
 simp only [List.zipIdx_cons,List.forIn_cons,List.zipIdx_nil,List.forIn_nil]
 refine wpAny_bind (wpAny_bind (wpAny_onRaise (wpAny_bind (m:=Builtin.SmallTypes.nextOf (.ref i1)) (qdc (j1.at fun o e=>(s1.2 _ D.i1z).trans e) (q1.at fun o e=>(s1.2 _ D.l1z).trans e) hx fun g2 j1' s2=>wpAny_pure ?_))))
 have t2:IsPair g2 TO u v:=s2.extBut _ _ D.TOi1 (s1.extBut _ _ D.TOz p2)
 refine wpAny_bind (wpAny_seqItems t2 rfl (wpAny_bind (wpAny_updateSeq_pair t2 fun g3 t3 s3=>wpAny_bind (wpAny_letGo (wpAny_pure ?_)))))
 replace t3:IsPair g3 TO x v:=t3
 refine wpAny_bind (wpAny_bind (wpAny_onRaise (wpAny_bind (m:=Builtin.SmallTypes.nextOf (.ref i2)) (qdc (((j2.at fun o e=>(s1.2 _ D.i2z).trans e).at fun o e=>(s2.2 _ D.i12.symm).trans e).at fun o e=>(s3.2 _ D.TOi2.symm).trans e)
  (((q2.at fun o e=>(s1.2 _ D.l2z).trans e).at fun o e=>(s2.2 _ D.l2i1).trans e).at fun o e=>(s3.2 _ D.l2TO).trans e) hy fun g4 j2' s4=>wpAny_pure ?_))))
 have t4:IsPair g4 TO x v:=s4.extBut _ _ D.TOi2 t3
 refine wpAny_bind (wpAny_seqItems t4 rfl (wpAny_bind (wpAny_updateSeq_pair t4 fun g5 t5 s5=>wpAny_bind (wpAny_letGo (wpAny_pure (wpAny_pure ?_))))))
 replace t5:IsPair g5 TO x y:=t5
 refine wpAny_bind (wpAny_seqItems t5 rfl (wpAny_bind (wpAny_newTuple (wpAny_bind (m:=Builtin.SmallTypes.ownedTupleHandOut (.ref z) (.ref g5.objs.size)) ?_))))
 have sz:g5.objs.size=s.heap.objs.size:=by rw [s5.1,s4.1,s3.1,s2.1,s1.1]
 have z5:IsZip g5 z TI TO .ellipsis:=s5.extBut _ _ D.TOz.symm (s4.extBut _ _ D.i2z.symm (s3.extBut _ _ D.TOz.symm (s2.extBut _ _ D.i1z.symm z1)))
 have k5:∀ c o,c≠z->c≠TO->c≠i1->c≠i2->s.heap.get? c=some o->g5.get? c=some o:=fun c o c1 c2 c3 c4 e=>s5.extBut _ _ c2 (s4.extBut _ _ c4 (s3.extBut _ _ c2 (s2.extBut _ _ c3 (s1.extBut _ _ c1 e))))
 have zl:z < g5.objs.size:=Heap.lt_size z5
 unfold Builtin.SmallTypes.ownedTupleHandOut
 have z6:IsZip (g5.push { cls := .type "tuple",data := .seq #[x,y] }) z TI TO .ellipsis:=Heap.get?_push_of_some _ z5
 refine wpAny_bind (wpAny_setField_rec z6 (by simp) fun g7 z7 s7=>?_)
 replace z7:IsZip g7 z TI TO (rawInt g5.objs.size):=z7
 refine wpAny_setField_rec z7 (by simp) fun g8 z8 s8=>?_
 replace z8:IsZip g8 z TI TO (rawInt g5.objs.size):=z8
 have up:∀ c o,c≠z->g5.get? c=some o->g8.get? c=some o:=fun c o c1 e=>s8.extBut _ _ c1 (s7.extBut _ _ c1 (Heap.get?_push_of_some _ e))
 have T8:IsPair g8 g5.objs.size x y:=s8.extBut _ _ (Nat.ne_of_gt zl) (s7.extBut _ _ (Nat.ne_of_gt zl) (Heap.get?_push_size _ rfl))
 rw [sz] at z8 T8
 refine wpAny_pure ⟨_,rfl,?_⟩
 show Q (.ref g5.objs.size) _
 rw [sz]
 refine K g8 z8 (up _ _ D.TOz t5) ?_ ?_ T8 fun c o c1 c2 c3 c4 e=>up c o c1 (k5 c o c1 c2 c3 c4 e)
 ·exact (((j1'.at fun o e=>(s3.2 _ D.TOi1.symm).trans e).at fun o e=>(s4.2 _ D.i12).trans e).at fun o e=>(s5.2 _ D.TOi1.symm).trans e).at fun o e=>up _ o D.i1z e
 ·exact (j2'.at fun o e=>(s5.2 _ D.TOi2.symm).trans e).at fun o e=>up _ o D.i2z e
theorem qh6 {z TI TO i1 i2 l1 l2:Addr}{b1 b2:Bool}{k:Nat}{xs ys:Array Value}{u v:Value}{Q:Fin->Shared->Prop}(hh:A.handled=none)(D:ZipApart z TI TO i1 i2 l1 l2)
  (hz:IsZip s.heap z TI TO .none) (p1:IsPair s.heap TI (.ref i1) (.ref i2)) (p2:IsPair s.heap TO u v) (j1:qa9 s.heap b1 i1 l1 k) (j2:qa9 s.heap b2 i2 l2 k) (q1:IsB s.heap b1 l1 xs) (q2:IsB s.heap b2 l2 ys) (hend:xs[k]?=none\/ys[k]?=none)
  (K:∀ h' e,(∀ c o,c≠z->c≠TO->c≠i1->c≠i2->s.heap.get? c=some o->h'.get? c=some o)->(∃ o,h'.get? e=some o/\o.cls = .type "StopIteration")->E (.ref e) { s with heap:=h' }) :
  wpAny (model prog w) A (Builtin.«zip.__next__» ⟨[.ref z],[]⟩) Q E s:=by
 refine wpAny_bind (m:=field (.ref z) 2) (wpAny_field hz rfl (x := .bool false) rfl (wpAny_bind (m:=field (.ref z) 3) (wpAny_field hz rfl (x := .ref TI) rfl (wpAny_bind (wpAny_seqItems p1 rfl (wpAny_bind (m:=Builtin.SmallTypes.ownedTupleIsFree (.ref z)) ?_))))))
 unfold Builtin.SmallTypes.ownedTupleIsFree
 refine wpAny_bind (wpAny_field hz rfl (x := .none) rfl (wpAny_pure ?_))
 simp only [if_true]
 refine wpAny_bind (wpAny_rule (wpAny_bind (wpAny_field hz rfl (x := .ref TO) rfl (wpAny_bind (wpAny_setField_rec hz (by simp) fun g1 z1 s1=>?_)))))
 replace z1:IsZip g1 z TI TO .ellipsis:=z1
 refine wpAny_bind ?_
 simp only [List.zipIdx_cons,List.forIn_cons,List.zipIdx_nil,List.forIn_nil]
 refine wpAny_bind (wpAny_bind (wpAny_onRaise (wpAny_bind (m:=Builtin.SmallTypes.nextOf (.ref i1)) ?_)))
 cases hx:xs[k]? with
 | none =>
  refine qdV hh (j1.at fun o e=>(s1.2 _ D.i1z).trans e) (q1.at fun o e=>(s1.2 _ D.l1z).trans e) hx fun g2 e s2 ⟨oe,hoe,hce⟩=>?_
  have z2:IsZip g2 z TI TO .ellipsis:=s2 _ _ D.i1z.symm z1
  have hez:e≠z:=fun q=>by subst q; rw [z2] at hoe; cases hoe; simp at hce
  exact wpAny_setField_rec z2 (by simp) fun g3 _ s3=>K g3 e (fun c o c1 _ c3 _ q=>s3.extBut _ _ c1 (s2 _ _ c3 (s1.extBut _ _ c1 q))) ⟨oe,s3.extBut _ _ hez hoe,hce⟩
 | some x =>
  have hy:ys[k]?=none:=by
   rcases hend with h | h
   ·rw [hx] at h; cases h
   ·exact h
  refine qdc (j1.at fun o e=>(s1.2 _ D.i1z).trans e) (q1.at fun o e=>(s1.2 _ D.l1z).trans e) hx fun g2 j1' s2=>wpAny_pure ?_
  have t2:IsPair g2 TO u v:=s2.extBut _ _ D.TOi1 (s1.extBut _ _ D.TOz p2)
  refine wpAny_bind (wpAny_seqItems t2 rfl (wpAny_bind (wpAny_updateSeq_pair t2 fun g3 t3 s3=>wpAny_bind (wpAny_letGo (wpAny_pure ?_)))))
  refine wpAny_bind (wpAny_bind (wpAny_onRaise (wpAny_bind (m:=Builtin.SmallTypes.nextOf (.ref i2)) (qdV hh (((j2.at fun o e=>(s1.2 _ D.i2z).trans e).at fun o e=>(s2.2 _ D.i12.symm).trans e).at fun o e=>(s3.2 _ D.TOi2.symm).trans e)
   (((q2.at fun o e=>(s1.2 _ D.l2z).trans e).at fun o e=>(s2.2 _ D.l2i1).trans e).at fun o e=>(s3.2 _ D.l2TO).trans e) hy fun g4 e s4 ⟨oe,hoe,hce⟩=>?_))))
  have z4:IsZip g4 z TI TO .ellipsis:=s4 _ _ D.i2z.symm (s3.extBut _ _ D.TOz.symm (s2.extBut _ _ D.i1z.symm z1))
  have hez:e≠z:=fun q=>by subst q; rw [z4] at hoe; cases hoe; simp at hce
  exact wpAny_setField_rec z4 (by simp) fun g5 _ s5=>K g5 e (fun c o c1 c2 c3 c4 q=>s5.extBut _ _ c1 (s4 _ _ c4 (s3.extBut _ _ c2 (s2.extBut _ _ c3 (s1.extBut _ _ c1 q))))) ⟨oe,s5.extBut _ _ hez hoe,hce⟩
def itc:Bool->String
 | true => "list_iterator"
 | false => "tuple_iterator"
abbrev zG1 (h:Heap)(b1:Bool)(l1:Addr):Heap:=h.push { cls := .type (itc b1),data := .fields #[.ref l1,.int 0 0] }
abbrev zG2 (h:Heap)(b1 b2:Bool)(l1 l2:Addr):Heap:=(zG1 h b1 l1).push { cls := .type (itc b2),data := .fields #[.ref l2,.int 0 0] }
abbrev zG3 (h:Heap)(b1 b2:Bool)(l1 l2:Addr):Heap:=(zG2 h b1 b2 l1 l2).push { cls := .type "tuple",data := .seq #[.ref h.objs.size,.ref (zG1 h b1 l1).objs.size] }
abbrev zG4 (h:Heap)(b1 b2:Bool)(l1 l2:Addr):Heap:=(zG3 h b1 b2 l1 l2).push { cls := .type "tuple",data := .seq #[.none,.none] }
abbrev zG5 (h:Heap)(b1 b2:Bool)(l1 l2:Addr):Heap:=(zG4 h b1 b2 l1 l2).push { cls := .type "zip",data := .fields #[.none,.bool false,.bool false,.ref (zG2 h b1 b2 l1 l2).objs.size,.ref (zG3 h b1 b2 l1 l2).objs.size] }
theorem qc4 {b:Bool}{l:Addr}{its:Array Value}{Q:Value->Shared->Prop}(hl:IsB s.heap b l its)
  (hQ:Q (.ref s.heap.objs.size) { s with heap:=s.heap.push { cls := .type (itc b),data := .fields #[.ref l,.int 0 0] } }):wpAny (model prog w) A (pyIter (.ref l)) Q E s:=by
 cases b with
 | true=>exact wpAny_pyIter_list hl hQ
 | false=>exact wpAny_pyIter_tuple hl hQ
theorem qh5 (b1 b2:Bool)(l1 l2:Addr)(xs ys:Array Value) :
  Meets (Builtin.«zip.__new__» ⟨[.type "zip",.ref l1,.ref l2],[]⟩) (fun _ R s=>IsB s.heap b1 l1 xs/\IsB s.heap b2 l2 ys/\R (.ok (.ret (.ref (zG4 s.heap b1 b2 l1 l2).objs.size))) { s with heap:=zG5 s.heap b1 b2 l1 l2 }) :=
 .of_wp fun prog w A R s h=>by
  obtain ⟨hp,g,d,tk,os⟩:=s
  obtain ⟨q1,q2,h⟩:=h
  have hsub:=sub_zip
  have a1:IsB (Shared.heap ⟨hp,g,d,tk,os⟩) b1 l1 xs:=q1
  have a2:IsB (Shared.heap ⟨hp.push { cls := .type (itc b1),data := .fields #[.ref l1,.int 0 0] },g,d,tk,os⟩) b2 l2 ys:=q2.at fun o e=>Heap.get?_push_of_some _ e
  wp_walk using qc4 a1,qc4 a2
  exact ⟨_,rfl,h⟩
theorem qhU {b1 b2:Bool}{l1 l2:Addr}{xs ys:Array Value}{Q:Value->Shared->Prop}(q1:IsB s.heap b1 l1 xs)(q2:IsB s.heap b2 l2 ys)
  (h:∀ h',IsZip h' (s.heap.objs.size + 4) (s.heap.objs.size + 2) (s.heap.objs.size + 3) .none->IsPair h' (s.heap.objs.size + 2) (.ref s.heap.objs.size) (.ref (s.heap.objs.size + 1))->IsPair h' (s.heap.objs.size + 3) .none .none ->
    qa9 h' b1 s.heap.objs.size l1 0->qa9 h' b2 (s.heap.objs.size + 1) l2 0->(∀ c o,s.heap.get? c=some o->h'.get? c=some o)->Q (.ref (s.heap.objs.size + 4)) { s with heap:=h' }) :
  wpAny (model prog w) A (call (.type "zip") [.ref l1,.ref l2]) Q E s:=by
 refine callType_new F.called_zip (by decide) (F.typeCall_zip_2 _ _) (F.newCall_zip_2 _ _) (fun obj=>F.args_object_init_3 obj _ _) F.entry_zip_new (qh5 b1 b2 l1 l2 xs ys) ⟨q1,q2,?_⟩
 have n1:(zG1 s.heap b1 l1).objs.size=s.heap.objs.size + 1:=Heap.size_push ..
 have n2:(zG2 s.heap b1 b2 l1 l2).objs.size=s.heap.objs.size + 2:=by rw [Heap.size_push,n1]
 have n3:(zG3 s.heap b1 b2 l1 l2).objs.size=s.heap.objs.size + 3:=by rw [Heap.size_push,n2]
 have n4:(zG4 s.heap b1 b2 l1 l2).objs.size=s.heap.objs.size + 4:=by rw [Heap.size_push,n3]
 have g5:(zG5 s.heap b1 b2 l1 l2).get? (zG4 s.heap b1 b2 l1 l2).objs.size=some _:=Heap.get?_push_size _ rfl
 have g4:(zG5 s.heap b1 b2 l1 l2).get? (zG3 s.heap b1 b2 l1 l2).objs.size=some _:=Heap.get?_push_of_some _ (Heap.get?_push_size _ rfl)
 have g3:(zG5 s.heap b1 b2 l1 l2).get? (zG2 s.heap b1 b2 l1 l2).objs.size=some _:=Heap.get?_push_of_some _ (Heap.get?_push_of_some _ (Heap.get?_push_size _ rfl))
 have g2:(zG5 s.heap b1 b2 l1 l2).get? (zG1 s.heap b1 l1).objs.size=some _:=Heap.get?_push_of_some _ (Heap.get?_push_of_some _ (Heap.get?_push_of_some _ (Heap.get?_push_size _ rfl)))
 have g1:(zG5 s.heap b1 b2 l1 l2).get? s.heap.objs.size=some _:=Heap.get?_push_of_some _ (Heap.get?_push_of_some _ (Heap.get?_push_of_some _ (Heap.get?_push_of_some _ (Heap.get?_push_size _ rfl))))
 show _/\_
 rw [n2,n3,n4] at g5
 rw [n1,n2] at g3
 rw [n3] at g4
 rw [n1] at g2
 rw [n4]
 refine ⟨⟨_,g5,rfl⟩,h _ g5 g3 g4 ?_ ?_ fun c o q=>Heap.get?_push_of_some _ (Heap.get?_push_of_some _ (Heap.get?_push_of_some _ (Heap.get?_push_of_some _ (Heap.get?_push_of_some _ q))))⟩
 ·cases b1 <;> exact ⟨_,g1,rfl,rfl⟩
 ·cases b2 <;> exact ⟨_,g2,rfl,rfl⟩
theorem qhi {z TI TO i1 i2 l1 l2:Addr}{b1 b2:Bool}{k:Nat}{xs ys:Array Value}{x y u v:Value}{Q:Option Value->Shared->Prop}(D:ZipApart z TI TO i1 i2 l1 l2)
  (hz:IsZip s.heap z TI TO .none) (p1:IsPair s.heap TI (.ref i1) (.ref i2)) (p2:IsPair s.heap TO u v) (j1:qa9 s.heap b1 i1 l1 k) (j2:qa9 s.heap b2 i2 l2 k) (q1:IsB s.heap b1 l1 xs) (q2:IsB s.heap b2 l2 ys) (hx:xs[k]?=some x) (hy:ys[k]?=some y)
  (K:∀ h',IsZip h' z TI TO (rawInt s.heap.objs.size)->IsPair h' TO x y->qa9 h' b1 i1 l1 (k + 1)->qa9 h' b2 i2 l2 (k + 1)->IsPair h' s.heap.objs.size x y ->
    (∀ c o,c≠z->c≠TO->c≠i1->c≠i2->s.heap.get? c=some o->h'.get? c=some o)->Q (some (.ref s.heap.objs.size)) { s with heap:=h' }) :
  wpAny (model prog w) A (pyNext (.ref z)) Q E s:=by
 have T:s.TypeIs (.ref z) "zip" := ⟨_,hz,rfl⟩
 unfold pyNext
 exact wpAny_bind (wpAny_attempt (wpAny_callSpecial?_slot (name:=Str.ofString "__next__") T F.slot_zip_next (wpAny_call_entry F.slot_zip_next T F.entry_zip_next
  (qgr D hz p1 p2 j1 j2 q1 q2 hx hy fun h' a1 a2 a3 a4 a5 a6=>wpAny_pure (K h' a1 a2 a3 a4 a5 a6)) (F.args_zip_next_1 _))))
theorem qiU {z TI TO i1 i2 l1 l2:Addr}{b1 b2:Bool}{k:Nat}{xs ys:Array Value}{u v:Value}{Q:Option Value->Shared->Prop}(hh:A.handled=none)(D:ZipApart z TI TO i1 i2 l1 l2)
  (hz:IsZip s.heap z TI TO .none) (p1:IsPair s.heap TI (.ref i1) (.ref i2)) (p2:IsPair s.heap TO u v) (j1:qa9 s.heap b1 i1 l1 k) (j2:qa9 s.heap b2 i2 l2 k) (q1:IsB s.heap b1 l1 xs) (q2:IsB s.heap b2 l2 ys) (hend:xs[k]?=none\/ys[k]?=none)
  (K:∀ h',(∀ c o,c≠z->c≠TO->c≠i1->c≠i2->s.heap.get? c=some o->h'.get? c=some o)->Q none { s with heap:=h' }):wpAny (model prog w) A (pyNext (.ref z)) Q E s:=by
 have T:s.TypeIs (.ref z) "zip" := ⟨_,hz,rfl⟩
 unfold pyNext
 refine wpAny_bind (wpAny_attempt (wpAny_callSpecial?_slot (name:=Str.ofString "__next__") T F.slot_zip_next (wpAny_call_entry F.slot_zip_next T F.entry_zip_next (qh6 hh D hz p1 p2 j1 j2 q1 q2 hend fun h' e hk ⟨o,ho,hc⟩=>?_) (F.args_zip_next_1 _))))
 exact wpAny_bind (wpAny_isInstance (T := "StopIteration") (b:=true) ⟨o,ho,hc⟩ isSubtype_stop (wpAny_pure (K _ hk)))
end
def ItzB (K:PySem.W.Frag)(b1 b2:Bool)(a b:Addr):It :=
 ⟨fun i H=>∃ xs ys x y,SqB K H b1 a xs/\SqB K H b2 b ys/\xs[i]?=some x/\ys[i]?=some y,
  fun i H v H'=>∃ p x y,v = .ref p/\H p=none/\H'=upd H p (.tup [x,y])/\∀ xs ys,SqB K H b1 a xs->SqB K H b2 b ys->xs[i]?=some x/\ys[i]?=some y,
  fun i H=>∃ xs ys,SqB K H b1 a xs/\SqB K H b2 b ys/\(xs.length≤i\/ys.length≤i)⟩
theorem qgB {P:Program}{w:World}{K:PySem.W.Frag}{elts:List Expr}{c:Nat}{pos:Pos}{b1 b2:Bool}{z TI TO i1 i2 a b:Addr}(D:ZipApart z TI TO i1 i2 a b) :
  Turn P w K (.Tuple elts c pos) (ItzB K b1 b2 a b) [z,TI,TO,i1,i2] z (fun i h=>IsZip h z TI TO .none/\IsPair h TI (.ref i1) (.ref i2)/\(∃ u v,IsPair h TO u v)/\qa9 h b1 i1 a i/\qa9 h b2 i2 b i) where
 mem:=by simp
 obj:=fun i h st x hx=>by
  obtain ⟨hz,hTI,⟨u,v,hTO⟩,h1,h2⟩:=st
  simp only [List.mem_cons,List.not_mem_nil,or_false] at hx
  rcases hx with rfl | rfl | rfl | rfl | rfl
  ·exact ⟨_,hz,fun _ q=>by cases q⟩
  ·exact ⟨_,hTI,fun _ q=>by cases q⟩
  ·exact ⟨_,hTO,fun _ q=>by cases q⟩
  ·exact h1.ob
  ·exact h2.ob
 keep:=fun i h h' st k=>by
  obtain ⟨hz,hTI,⟨u,v,hTO⟩,h1,h2⟩:=st
  exact ⟨k z (by simp) _ hz,k TI (by simp) _ hTI,⟨u,v,k TO (by simp) _ hTO⟩,h1.at fun o e=>k i1 (by simp) o e,h2.at fun o e=>k i2 (by simp) o e⟩
 item:=by
  intro X hP hw hK hc i pins s σ H E I hf st hg
  subst hP hw hK
  obtain ⟨xs,ys,x,y,hq1,hq2,hx,hy⟩:=hg
  obtain ⟨its1,rv1,p1,_⟩:=I.seqB hq1
  obtain ⟨its2,rv2,p2,_⟩:=I.seqB hq2
  obtain ⟨u,hu,ru⟩:=rv1.get hx
  obtain ⟨v,hv,rv⟩:=rv2.get hy
  obtain ⟨hz,hTI,⟨u0,v0,hTO⟩,h1,h2⟩:=st
  refine qhi D hz hTI hTO h1 h2 p1 p2 (x:=u) (y:=v) (by simpa using hu) (by simpa using hv) fun h' a1 a2 a3 a4 a5 hk=>⟨_,rfl,?_⟩
  have lt:∀ {c o},s.heap.get? c=some o->s.heap.objs.size≠c:=fun e=>Nat.ne_of_gt (Heap.lt_size e)
  refine wpAny_letOwnedTupleGo_zip (s:={ s with heap:=h' }) a1 fun h'' c1 sb=>?_
  have hn:H s.heap.objs.size=none:=I.hok.fresh (Nat.le_refl _)
  have kk:∀ c o,c ∉ [z,TI,TO,i1,i2]->s.heap.get? c=some o->h''.get? c=some o:=fun c o hc' e=>by
   simp only [List.mem_cons,List.not_mem_nil,or_false,not_or] at hc'
   obtain ⟨n1,n2,n3,n4,n5⟩:=hc'
   exact sb.extBut _ _ n1 (hk c o n1 n3 n4 n5 e)
  have T1:IsPair h'' s.heap.objs.size u v:=sb.extBut _ _ (lt hz) a5
  refine ⟨.ref s.heap.objs.size,upd H s.heap.objs.size (.tup [x,y]),I.turnedNew (t':=s.toks) hf kk (Nat.le_refl _) ⟨by show 2≤_; decide,[u,v],.cons ru (.cons rv .nil),_,T1,rfl,_,rfl,rfl⟩,rfl,⟨_,x,y,rfl,hn,rfl,fun xs' ys' q1 q2=>?_⟩,
   ⟨c1,?_,⟨_,_,sb.extBut _ _ D.TOz a2⟩,a3.at fun o e=>sb.extBut _ _ D.i1z e,a4.at fun o e=>sb.extBut _ _ D.i2z e⟩,fun b hb=>?_⟩
  ·rw [I.seqB_inj q1 hq1,I.seqB_inj q2 hq2]; exact ⟨hx,hy⟩
  ·exact sb.extBut _ _ D.TIz (hk _ _ D.TIz D.TITO D.TIi1 D.TIi2 hTI)
  ·rw [uE]
   ·exact (hf b hb).1
   ·simp only [List.mem_cons,List.not_mem_nil,or_false] at hb
    obtain ⟨o1,e1,_⟩:=h1.ob
    obtain ⟨o2,e2,_⟩:=h2.ob
    rcases hb with rfl | rfl | rfl | rfl | rfl
    ·exact (lt hz).symm
    ·exact (lt hTI).symm
    ·exact (lt hTO).symm
    ·exact (lt e1).symm
    ·exact (lt e2).symm
 done:=by
  intro X hP hw hK hc i pins s σ H E I hf st hg
  subst hP hw hK
  obtain ⟨xs,ys,hq1,hq2,hx⟩:=hg
  obtain ⟨its1,rv1,p1,_⟩:=I.seqB hq1
  obtain ⟨its2,rv2,p2,_⟩:=I.seqB hq2
  have l1:=rv1.length
  have l2:=rv2.length
  obtain ⟨hz,hTI,⟨u0,v0,hTO⟩,h1,h2⟩:=st
  refine qiU (I.ok.hd hc) D hz hTI hTO h1 h2 p1 p2 (by simp; omega) fun h' hk=>⟨rfl,I.turnedL (t':=s.toks) hf fun c o hc' e=>?_⟩
  simp only [List.mem_cons,List.not_mem_nil,or_false,not_or] at hc'
  obtain ⟨n1,n2,n3,n4,n5⟩:=hc'
  exact hk c o n1 n3 n4 n5 e
 self:=fun _ _ _ _ _ st h=>wpAny_pyIter_zip st.1 h
def iZipB (K:PySem.W.Frag)(b1 b2:Bool)(ta:TA):TI:=fun σ H R=>ta σ H fun vs H1=>∃ a b,vs=[.ref a,.ref b]/\(∃ xs,SqB K H1 b1 a xs)/\(∃ ys,SqB K H1 b2 b ys)/\R (ItzB K b1 b2 a b) H1
theorem qg1 (b1 b2:Bool){X:Cx}{elts:List Expr}{c:Nat}{tpos:Pos}{a b:Expr}{ta:TA}{p pos:Pos}(hg:Gl X "zip")(hm:X.mg "zip" = none)(ha:PA X [a,b] ta)(hs:starEach [a,b] X.env=[(false,eval a X.env),(false,eval b X.env)]:=by rfl)(hs2:starEach [b] X.env=[(false,eval b X.env)]:=by rfl) :
  PI X (.Tuple elts c tpos) (.Call (.Name "zip" p) [a,b] [] pos) (iZipB X.K b1 b2 ta):=by
 intro pins s σ H R I h
 refine Call_ (qcJ I hg hm boot_zip (PyProof.Rows.callWith_type1 (thn (ha pos pins s σ H _ I h) fun us s1 ⟨vs,H1,I1,r1,q1⟩=>?_) (by rw [hs,hs2]) (by rw [hs2]; rfl)))
 obtain ⟨a,b,e,⟨xs,hq1⟩,⟨ys,hq2⟩,q⟩:=q1
 subst e
 cases r1 with
 | cons r rr =>
  cases rr with
  | cons r' rr =>
   cases rr
   cases r
   cases r'
   obtain ⟨its1,rv1,p1,_⟩:=I1.seqB hq1
   obtain ⟨its2,rv2,p2,_⟩:=I1.seqB hq2
   have la:=p1.lt
   have lb:=p2.lt
   refine qhU p1 p2 fun h' a1 a2 a3 a4 a5 hk=>wpAny_pyIter_zip a1 ?_
   have D:ZipApart (s1.heap.objs.size + 4) (s1.heap.objs.size + 2) (s1.heap.objs.size + 3) s1.heap.objs.size (s1.heap.objs.size + 1) a b:=qd7 la lb
   refine ⟨_,_,_,_,H1,rfl,I1.kept (t':=s1.toks) hk,qgB D,⟨a1,a2,⟨_,_,a3⟩,a4,a5⟩,fun x hx=>?_,q⟩
   have hx':s1.heap.objs.size≤x:=by
    simp only [List.mem_cons,List.not_mem_nil,or_false] at hx
    rcases hx with rfl | rfl | rfl | rfl | rfl <;> (show (_:Nat)≤(_:Nat)) <;> omega
   exact I1.fpOk hx' (I1.hok.fresh hx')
section
variable {prog:Program}{w:World}{A:Around}{E:Value->Shared->Prop}{s:Shared}
theorem qhG (b:Bool)(l:Addr)(its:Array Value) :
  Meets (Builtin.«enumerate.__new__» ⟨[.type "enumerate",.ref l],[]⟩) (fun _ R s=>IsB s.heap b l its /\
   R (.ok (.ret (.ref (zG1 s.heap b l).objs.size))) { s with heap:=(zG1 s.heap b l).push { cls := .type "enumerate",data := .fields #[.none,.bool false,.ref s.heap.objs.size,rawInt 0,.none,.none] } }) :=
 .of_wp fun prog w A R s h=>by
  obtain ⟨hp,g,d,tk,os⟩:=s
  obtain ⟨q1,h⟩:=h
  have hsub:=sub_enumerate
  have a1:IsB (Shared.heap ⟨hp,g,d,tk,os⟩) b l its:=q1
  have hl:∃ o,hp.get? l=some o:=by cases b <;> (obtain ⟨o,e,_⟩:=q1; exact ⟨o,e⟩)
  obtain ⟨o,hl⟩:=hl
  wp_walk using AutoSeq1.wpAny_loadPart' hl
  refine wpAny_stack_any fun st=>wpAny_pure ?_
  split
  ·rename_i c _ _ _ _ _
   cases (c == Value.type "enumerate")
   ·wp_walk using AutoSeq1.wpAny_loadPart' hl,qc4 a1
    exact ⟨_,rfl,h⟩
   ·wp_walk using AutoSeq1.wpAny_loadPart' hl,qc4 a1
    exact ⟨_,rfl,h⟩
  ·wp_walk using AutoSeq1.wpAny_loadPart' hl,qc4 a1
   exact ⟨_,rfl,h⟩
theorem qgl {b:Bool}{l:Addr}{its:Array Value}{Q:Value->Shared->Prop}(q1:IsB s.heap b l its)
  (h:∀ h',IsEnum h' (s.heap.objs.size + 1) s.heap.objs.size 0 .none->qa9 h' b s.heap.objs.size l 0->(∀ c o,s.heap.get? c=some o->h'.get? c=some o)->Q (.ref (s.heap.objs.size + 1)) { s with heap:=h' }) :
  wpAny (model prog w) A (call (.type "enumerate") [.ref l]) Q E s:=by
 refine callType_new F.called_enumerate (by decide) (F.typeCall_enumerate_1 _) (F.newCall_enumerate_1 _) (fun obj=>F.args_object_init_2 obj _) F.entry_enumerate_new (qhG b l its) ⟨q1,?_⟩
 have n1:(zG1 s.heap b l).objs.size=s.heap.objs.size + 1:=Heap.size_push ..
 have g2:((zG1 s.heap b l).push { cls := .type "enumerate",data := .fields #[.none,.bool false,.ref s.heap.objs.size,rawInt 0,.none,.none] }).get? (zG1 s.heap b l).objs.size=some _:=Heap.get?_push_size _ rfl
 have g1:((zG1 s.heap b l).push { cls := .type "enumerate",data := .fields #[.none,.bool false,.ref s.heap.objs.size,rawInt 0,.none,.none] }).get? s.heap.objs.size=some _:=Heap.get?_push_of_some _ (Heap.get?_push_size _ rfl)
 show _/\_
 rw [n1] at g2
 rw [n1]
 refine ⟨⟨_,g2,rfl⟩,h _ g2 ?_ fun c o q=>Heap.get?_push_of_some _ (Heap.get?_push_of_some _ q)⟩
 cases b <;> exact ⟨_,g1,rfl,rfl⟩
theorem qhH {b:Bool}{e it l:Addr}{k:Nat}{its:Array Value}{i:Int}{old:Value}{Q:Option Value->Shared->Prop}(hh:A.in1.handled=none)(he:IsEnum s.heap e it i old)(h1:qa9 s.heap b it l k)(h2:IsB s.heap b l its)(hx:its[k]?=none)
  (K:∀ h',Heap.ExtBut it s.heap h'->Q none { s with heap:=h' }):wpAny (model prog w) A (pyNext (.ref e)) Q E s:=by
 have T:s.TypeIs (.ref e) "enumerate" := ⟨_,he,rfl⟩
 unfold pyNext
 refine wpAny_bind (wpAny_attempt (wpAny_callSpecial?_slot (name:=Str.ofString "__next__") T F.slot_enumerate_next (wpAny_call_entry F.slot_enumerate_next T F.entry_enumerate_next ?_ (F.args_enumerate_next_1 _))))
 refine wpAny_bind (m:=field (.ref e) 2) (wpAny_field he rfl (x := .ref it) rfl (wpAny_bind (qdV hh h1 h2 hx fun h' x he' ⟨o,ho,hc⟩=>?_)))
 exact wpAny_bind (wpAny_isInstance (T := "StopIteration") (b:=true) ⟨o,ho,hc⟩ isSubtype_stop (wpAny_pure (K _ he')))
end
def ItE (K:PySem.W.Frag)(b:Bool)(a:Addr):It :=
 ⟨fun i H=>∃ xs x,SqB K H b a xs/\xs[i]?=some x,
  fun i H v H'=>∃ p x,v = .ref p/\H p=none/\H'=upd H p (.tup [.int i,x])/\∀ xs,SqB K H b a xs->xs[i]?=some x,
  fun i H=>∃ xs,SqB K H b a xs/\xs.length≤i⟩
theorem qfZ {P:Program}{w:World}{K:PySem.W.Frag}{elts:List Expr}{c:Nat}{pos:Pos}{b:Bool}{e it a:Addr}(hei:e≠it)(hea:e≠a)(hia:a≠it) :
  Turn P w K (.Tuple elts c pos) (ItE K b a) [e,it] e (fun i h=>(∃ old,IsEnum h e it i old)/\qa9 h b it a i) where
 mem:=by simp
 obj:=fun i h st x hx=>by
  obtain ⟨⟨old,he⟩,h1⟩:=st
  simp only [List.mem_cons,List.not_mem_nil,or_false] at hx
  rcases hx with rfl | rfl
  ·exact ⟨_,he,fun _ q=>by cases q⟩
  ·exact h1.ob
 keep:=fun i h h' st k=>by
  obtain ⟨⟨old,he⟩,h1⟩:=st
  exact ⟨⟨old,k e (by simp) _ he⟩,h1.at fun o q=>k it (by simp) o q⟩
 item:=by
  intro X hP hw hK hc i pins s σ H E I hf st hg
  subst hP hw hK
  obtain ⟨xs,x,hq1,hx⟩:=hg
  obtain ⟨its1,rv1,p1,_⟩:=I.seqB hq1
  obtain ⟨u,hu,ru⟩:=rv1.get hx
  obtain ⟨⟨old,he⟩,h1⟩:=st
  have hi:i < its1.toArray.size:=by
   have:=rv1.length
   have h2:=(List.getElem?_eq_some_iff.mp hx).1
   simp; omega
  have hh:X.A.in1.handled=none:=I.ok.hd hc
  refine wpAny_pyNext_enum_itemD (qlN hh b it a hia its1.toArray) he ⟨h1,p1⟩ hi hei (by simp [hei,hea]) fun y h' tk hy eo st' hT hsz hk=>⟨_,rfl,?_⟩
  obtain rfl:y=u:=by
   have hy':its1[i]?=some y:=by simpa using hy
   rw [hu] at hy'
   exact (Option.some.inj hy').symm
  have lt:∀ {c o},s.heap.get? c=some o->s.heap.objs.size≠c:=fun q=>Nat.ne_of_gt (Heap.lt_size q)
  refine wpAny_letOwnedTupleGo_enum (s:={ s with heap:=h',toks:=tk + 1 }) eo fun h'' c1 sb=>?_
  have hn:H s.heap.objs.size=none:=I.hok.fresh (Nat.le_refl _)
  have kk:∀ c o,c ∉ [e,it]->s.heap.get? c=some o->h''.get? c=some o:=fun c o hc' q=>by
   simp only [List.mem_cons,List.not_mem_nil,or_false,not_or] at hc'
   exact (sb.2 _ hc'.1).trans (hk c o hc'.1 hc'.2 q)
  have T1:h''.get? s.heap.objs.size=some { cls := .type "tuple",data := .seq #[.int i tk,y] }:=(sb.2 _ (lt he)).trans hT
  refine ⟨.ref s.heap.objs.size,upd H s.heap.objs.size (.tup [.int i,x]),I.turnedNew (t':=tk + 1) hf kk (Nat.le_refl _) ⟨by show 2≤_; decide,[.int i tk,y],.cons ⟨_,rfl⟩ (.cons ru .nil),_,T1,rfl,_,rfl,rfl⟩,rfl,⟨_,x,rfl,hn,rfl,fun xs' q1=>?_⟩,
   ⟨⟨_,by simpa using c1⟩,st'.1.at fun o q=>(sb.2 _ hei.symm).trans q⟩,fun b hb=>?_⟩
  ·rw [I.seqB_inj q1 hq1]; exact hx
  ·rw [uE]
   ·exact (hf b hb).1
   ·simp only [List.mem_cons,List.not_mem_nil,or_false] at hb
    obtain ⟨o1,e1,_⟩:=h1.ob
    rcases hb with rfl | rfl
    ·exact (lt he).symm
    ·exact (lt e1).symm
 done:=by
  intro X hP hw hK hc i pins s σ H E I hf st hg
  subst hP hw hK
  obtain ⟨xs,hq1,hx⟩:=hg
  obtain ⟨its1,rv1,p1,_⟩:=I.seqB hq1
  have l1:=rv1.length
  obtain ⟨⟨old,he⟩,h1⟩:=st
  have hh:X.A.in1.handled=none:=I.ok.hd hc
  exact qhH hh he h1 p1 (by simp; omega) fun h' eb=>⟨rfl,I.turnedL (t':=s.toks) hf fun c o hc' q=>eb c o (by simp at hc'; exact hc'.2) q⟩
 self:=fun _ _ _ _ _ st h=>by
  obtain ⟨⟨old,he⟩,_⟩:=st
  exact wpAny_pyIter_enum he h
def qlD (K:PySem.W.Frag)(b:Bool)(ta:TA):TI:=fun σ H R=>ta σ H fun vs H1=>∃ a,vs=[.ref a]/\(∃ xs,SqB K H1 b a xs)/\R (ItE K b a) H1
theorem boot_enumerate:bootBuiltins "enumerate" = some (.type "enumerate"):=by decide +kernel
theorem qfF (b:Bool){X:Cx}{elts:List Expr}{c:Nat}{tpos:Pos}{a:Expr}{ta:TA}{p pos:Pos}(hg:Gl X "enumerate")(hm:X.mg "enumerate" = none)(ha:PA X [a] ta)(hs:starEach [a] X.env=[(false,eval a X.env)]:=by rfl) :
  PI X (.Tuple elts c tpos) (.Call (.Name "enumerate" p) [a] [] pos) (qlD X.K b ta):=by
 intro pins s σ H R I h
 refine Call_ (qcJ I hg hm boot_enumerate (PyProof.Rows.callWith_type1 (thn (ha pos pins s σ H _ I h) fun us s1 ⟨vs,H1,I1,r1,q1⟩=>?_) hs rfl))
 obtain ⟨a,e,⟨xs,hq1⟩,q⟩:=q1
 subst e
 cases r1 with
 | cons r rr =>
  cases rr
  cases r
  obtain ⟨its1,rv1,p1,_⟩:=I1.seqB hq1
  have la:=p1.lt
  refine qgl p1 fun h' a1 a2 hk=>wpAny_pyIter_enum a1 ?_
  refine ⟨_,_,_,_,H1,rfl,I1.kept (t':=s1.toks) hk,qfZ (e:=s1.heap.objs.size + 1) (it:=s1.heap.objs.size) (Nat.succ_ne_self _) ?_ ?_,⟨⟨_,a1⟩,a2⟩,fun x hx=>?_,q⟩
  ·exact Nat.ne_of_gt (Nat.lt_succ_of_lt la)
  ·exact Nat.ne_of_lt la
  ·have hx':s1.heap.objs.size≤x:=by
    simp only [List.mem_cons,List.not_mem_nil,or_false] at hx
    rcases hx with rfl | rfl <;> (show (_:Nat)≤(_:Nat)) <;> omega
   exact I1.fpOk hx' (I1.hok.fresh hx')
end L2
namespace L2
open PySem PySem.Spec PyProof.Rows MA
abbrev iv (ns:List Int):List V:=ns.map V.int
theorem qly {ns:List Int}{i:Nat}{x:V}(h:(iv ns)[i]?=some x):∃ y,ns[i]?=some y/\x = .int y:=by
 rw [List.getElem?_map] at h
 cases e:ns[i]? with
 | none=>rw [e] at h; cases h
 | some y=>rw [e] at h; cases h; exact ⟨y,rfl,rfl⟩
theorem qlw {ns:List Int}{i:Nat}(h:i < ns.length):(iv ns)[i]?=some (.int ns[i]):=by rw [List.getElem?_map,List.getElem?_eq_getElem h]; rfl
theorem qlx {ns:List Int}{i:Nat}(h:i < ns.length):atI (iv ns) (i:Int)=some (.int (ns.getD i 0)):=by
 rw [qbO (qlw h),qaa h]
theorem qkl (ns:List Int)(k:Nat):(iv ns).take k=iv (ns.take k):=List.map_take.symm
theorem qhv (ns:List Int)(k:Nat):(iv ns).drop k=iv (ns.drop k):=List.map_drop.symm
theorem qd5 {xs:List V}{k:Nat}(h:k≤xs.length):cutV xs none (some (k:Int))=xs.take k:=by
 unfold cutV
 rw [HT.sIx_nat,HT.sIx_none]
 simp only [List.drop_zero,Nat.sub_zero]
 rw [Nat.min_eq_left h]
theorem qbT {xs:List V}{k:Nat}(h:k≤xs.length):cutV xs (some (k:Int)) none=xs.drop k:=by
 unfold cutV
 rw [HT.sIx_nat,HT.sIx_none]
 rw [List.take_of_length_le (by rw [List.length_drop]; omega),Nat.min_eq_left h]
theorem qeE (H:Hp):∀ ns:List Int,qam H (iv ns) (ns.map PyData.int)
 | [] => .nil
 | n :: ns => .cons (.int n) (qeE H ns)
end L2
namespace My
open PySem L2 MA
theorem lz {m:Nat}(n:Nat)(h:m=n)(hn:n≤100:=by decide):m≤sizeLine:=by
 rw [h,sizeLine_eq]; omega
theorem lzz {m:Nat}(h:m≤10000):m≤sizeLine:=by rw [sizeLine_eq]; omega
theorem qfG {H H2:Hp}{p acc:Addr}{n m:Nat}(hn:H acc=none)(hp:Pen H p n)(x:qaS p H H2)(hp2:Pen H2 p m)(o:HO):Pen (upd H2 acc o) p m/\qaS p H (upd H2 acc o):=by
 obtain ⟨c,ns,a,l,h1,h2,_,_⟩:=hp
 obtain ⟨c',ns',a',l',h1',h2',h3',h4'⟩:=hp2
 have hap:p≠acc:=qaf h1 hn
 have hac:c≠acc:=qaf h2 hn
 obtain ⟨a'',l'',e⟩:=x.pen c a l h1
 rw [h1'] at e
 have ec:c'=c:=by
  have e':=congrArg (fun o=>match o with | some (HO.dK ((_,V.ref q) :: _))=>q | _=>c) e
  exact e'
 subst ec
 refine ⟨⟨c',ns',a',l',by rw [uE hap]; exact h1',by rw [uE hac]; exact h2',h3',h4'⟩,⟨fun b u hb hbp=>?_,fun c2 a2 l2 e2=>?_⟩⟩
 ·rw [uE (qaf hb hn)]; exact x.all b u hb hbp
 ·rw [uE hap]; exact x.pen c2 a2 l2 e2
theorem Pen.nep {H:Hp}{p b:Addr}{n:Nat}{o:HO}(hp:Pen H p n)(hb:H b=some o)(ho:∀ kvs,o ≠ .dK kvs:=by intro _ z; cases z):b≠p:=by
 obtain ⟨kvs,e⟩:=hp.dk
 rintro rfl
 rw [hb] at e
 cases e
 exact ho _ rfl
theorem Pen.keep {H H':Hp}{p b:Addr}{n:Nat}{o:HO}(hp:Pen H p n)(x:qaS p H H')(hb:H b=some o)(ho:∀ kvs,o ≠ .dK kvs:=by intro _ z; cases z):H' b=some o:=x.all b o hb (hp.nep hb ho)
end My
namespace L2
open PySem PySem.Spec PyProof.Rows MA
def hoB:Bool->List V->HO
 | true,xs => .lst xs
 | false,xs => .tup xs
theorem SqB.of {K:PySem.W.Frag}{H:Hp}{b:Bool}{a:Addr}{xs:List V}(h:H a=some (hoB b xs)):SqB K H b a xs:=by
 cases b
 ·exact SqT.of h
 ·exact SqL.of h
theorem qeF {K:PySem.W.Frag}{b1 b2:Bool}{a b:Addr}{xs ys:List V}{te:TE}{H:Hp}{R:Addr->Hp->Prop}{fs:St}(F:V->V->V)(ha:H a=some (hoB b1 xs))(hb:H b=some (hoB b2 ys))(hz:xs.length≤10000)
  (hte:∀ (i:Nat) x y,xs[i]?=some x->ys[i]?=some y->∀ (H':Hp) (Q':VK),Same H H'->(∀ H'',Same H' H''->Q' (F x y) H'')->te (some x :: some y :: fs) H' Q')
  (q:∀ p H',Same H H'->H' p=some (.lst (List.zipWith F xs ys))->R p H') :
  ∀ p,H p=none->∃ W:Nat->Nat->List V->St->Hp->Prop,(∃ m,W 0 m [] (none :: none :: fs) (upd H p (.lst [])))/\∀ i m zs σ' H',W i m zs σ' H' ->
   ((ItzB K b1 b2 a b).stop i H'/\R p H')\/((ItzB K b1 b2 a b).go i H'/\∀ x H2,(ItzB K b1 b2 a b).yld i H' x H2->qlG 2 (qkw (qez 0) (qkw (qez 1) gNil)) x σ' H2 fun σ2 H3=>tTT σ2 H3 fun b H4=>if b=true then te σ2 H4 fun v H5=>zs.length < sizeLine/\H5 p=some (.lst zs)/\(∃ m',m' < m/\W (i + 1) m' (zs ++ [v]) σ2 (upd H5 p (.lst (zs ++ [v]))))
    else ∃ m',m' < m/\W (i + 1) m' zs σ2 H4):=by
 intro p hp
 refine ⟨fun i m zs σ' H'=>m=xs.length - i/\i≤xs.length/\i≤ys.length/\zs=List.zipWith F (xs.take i) (ys.take i)/\Same H H'/\H' p=some (.lst zs)/\∃ o1 o2,σ'=o1 :: o2 :: fs,⟨xs.length,by simp,Nat.zero_le _,Nat.zero_le _,by simp,sN hp _,uS,_,_,rfl⟩,?_⟩
 rintro i m zs σ' H' ⟨rfl,hi,hi2,rfl,s',hp',o1,o2,rfl⟩
 have ha':=s' _ _ ha
 have hb':=s' _ _ hb
 by_cases hlt:i < xs.length/\i < ys.length
 ·obtain ⟨h1,h2⟩:=hlt
  refine .inr ⟨⟨xs,ys,xs[i],ys[i],SqB.of ha',SqB.of hb',List.getElem?_eq_getElem h1,List.getElem?_eq_getElem h2⟩,fun x H2 hy=>?_⟩
  obtain ⟨r,x,y,rfl,hr,rfl,hxy⟩:=hy
  obtain ⟨hx,hy⟩:=hxy xs ys (SqB.of ha') (SqB.of hb')
  have s2:=s'.trans (sN hr (.tup [x,y]))
  refine ⟨r,_,rfl,uS,rfl,_,_,rfl,_,_,rfl,rfl,?_⟩
  change te (some x :: some y :: fs) _ _
  have hp2:=sN hr (.tup [x,y]) _ _ hp'
  refine hte i x y hx hy _ _ s2 fun H5 s5=>⟨?_,s5 _ _ hp2,xs.length - (i + 1),by omega,rfl,h1,h2,?_,?_,uS,_,_,rfl⟩
  ·rw [List.length_zipWith,List.length_take,List.length_take,sizeLine_eq]; omega
  ·rw [List.take_add_one,List.take_add_one,hx,hy,List.zipWith_append (by rw [List.length_take,List.length_take]; omega)]; rfl
  ·intro b o e
   rw [uE (qaf e hp)]
   exact s5 _ _ (s2 _ _ e)
 ·refine .inl ⟨⟨xs,ys,SqB.of ha',SqB.of hb',by omega⟩,q p H' s' ?_⟩
  rw [hp',<- List.take_zipWith,List.take_of_length_le (by rw [List.length_zipWith]; omega)]
theorem qhF {K:PySem.W.Frag}{b:Bool}{a:Addr}{xs:List V}{g:TG}{tb:TS}{D:Ends}{σ:St}{H:Hp}(Pv:Nat->St->Hp->Prop)(h0:Pv 0 σ H)(hl:∀ i σ H,i≤xs.length->Pv i σ H->SqB K H b a xs)
  (hs:∀ i x p σ H,xs[i]?=some x->Pv i σ H->H p=none->g (.ref p) σ (upd H p (.tup [.int i,x])) fun σ2 H2=>tb { D with nx:=Pv (i + 1),ct:=Pv (i + 1),bk:=D.nx } σ2 H2) (hd:∀ σ H,Pv xs.length σ H->D.nx σ H) :
  ∃ W:Nat->Nat->St->Hp->Prop,(∃ m,W 0 m σ H)/\∀ i m σ H,W i m σ H ->
   ((ItE K b a).stop i H/\D.nx σ H)\/((ItE K b a).go i H/\∃ N:St->Hp->Prop,(∀ σ' H',N σ' H'->∃ m',m' < m/\W (i + 1) m' σ' H')/\∀ x H',(ItE K b a).yld i H x H'->g x σ H' fun σ2 H2=>tb { D with nx:=N,ct:=N,bk:=D.nx } σ2 H2):=by
 refine ⟨fun i m σ H=>m=xs.length - i/\i≤xs.length/\Pv i σ H,⟨xs.length,by simp,Nat.zero_le _,h0⟩,?_⟩
 rintro i m σ H ⟨rfl,hi,p⟩
 have q:=hl i σ H hi p
 by_cases hlt:i < xs.length
 ·refine .inr ⟨⟨xs,xs[i],q,by simp [hlt]⟩,Pv (i + 1),fun σ' H' p'=>⟨xs.length - (i + 1),by omega,rfl,hlt,p'⟩,fun x H' y=>?_⟩
  obtain ⟨r,z,rfl,hr,rfl,hz⟩:=y
  exact hs i z r σ H (hz xs q) p hr
 ·have e:i=xs.length:=by omega
  subst e
  exact .inl ⟨⟨xs,q,Nat.le_refl _⟩,hd σ H p⟩
end L2
namespace HT
open PySem PySem.Spec PyProof.Rows
section
variable {prog:Program}{w:World}{A:Around}{E:Value->Shared->Prop}{s:Shared}
theorem getItem_tuple_all {t sl:Addr}{items:Array Value}{vl vu:Value}{lo hi:Option Int}{Q:Value->Shared->Prop}(ht:IsTup s.heap t items)(hs:s.heap.IsSliceOf sl vl vu .none)(pl:IsPart vl lo)(pu:IsPart vu hi)
  (hw:sIx items.size 0 lo=0/\sIx items.size items.size hi=items.size) (h:Q (.ref t) s):wpAny (model prog w) A (getItem (.ref t) (.ref sl)) Q E s:=by
 obtain ⟨os,q1,q2,q3⟩:=id hs
 have T:s.TypeIs (.ref sl) "slice" := ⟨os,q1,q2⟩
 unfold getItem
 try with_reducible refine wpAny_holding ?_
 first | refine wpAny_bind (wpAny_pure ?_) | skip
 refine wpAny_bind (wpAny_sequenceKey ht.typeIs (by decide) (wpAny_bind (wpAny_callSpecial?_slot (name:=Str.ofString "__getitem__") ht.typeIs PyProof.Rows.slot_tuple_getitem (wpAny_call_entry PyProof.Rows.slot_tuple_getitem ht.typeIs entry_tuple_getitem ?_ (args_tuple_getitem _ _)))))
 refine wpAny_bind (m:=Builtin.Tuple.tupleItemsOf (.ref t)) (tupleItemsOf_ ht (wpAny_bind (wpAny_typeOf T ?_)))
 rw [if_pos (by decide)]
 refine wpAny_bind (qbF hs pl pu ?_)
 show wpAny (model prog w) _ (if (((sIx items.size 0 lo:Nat):Int) == 0 && (1:Int) == 1 && (sIx items.size items.size hi - sIx items.size 0 lo) == items.size)=true then _ else _) _ _ s
 rw [if_pos (by rw [hw.1,hw.2]; simp)]
 refine wpAny_bind (m:=Builtin.Tuple.tupleIsExact (.ref t)) ?_
 unfold Builtin.Tuple.tupleIsExact
 refine wpAny_bind (wpAny_typeOf ht.typeIs (wpAny_pure ?_))
 rw [if_pos (by decide)]
 exact wpAny_bind (wpAny_rule (wpAny_pure ⟨_,rfl,wpAny_pure h⟩))
theorem qgo (n:Nat):Builtin.Slice.sliceAdjust none none (-1) (n:Int)=((n:Int) - 1,-1):=by
 simp [Builtin.Slice.sliceAdjust]
theorem qf5 (n:Nat):Builtin.Slice.slicePlaces ((n:Int) - 1) (-1) (-1)=n:=by
 unfold Builtin.Slice.slicePlaces
 simp
 try omega
theorem qis (xs:Array Value):((List.range xs.size).filterMap fun (m:Nat)=>xs[(((xs.size:Int) - 1) + (m:Int) * -1).toNat]?).toArray=xs.toList.reverse.toArray:=by
 have e:(List.range xs.size).filterMap (fun (m:Nat)=>xs[(((xs.size:Int) - 1) + (m:Int) * -1).toNat]?)=((List.range xs.size).map fun k=>xs.size - 1 - k).filterMap (xs[·]?):=by
  rw [List.filterMap_map]
  congr 1
  funext m
  have:(((xs.size:Int) - 1) + (m:Int) * -1).toNat=xs.size - 1 - m:=by omega
  simp only [this,Function.comp]
 rw [e,PySem.W.krv_range,List.filterMap_reverse,PySem.W.krv_all]
theorem getItem_tuple_rev {t sl:Addr}{items:Array Value}{vk:Value}{Q:Value->Shared->Prop}(ht:IsTup s.heap t items)(hs:s.heap.IsSliceOf sl .none .none vk)(pk:IsPart vk (some (-1)))
  (h:Q (.ref s.heap.objs.size) { s with heap:=s.heap.push { cls := .type "tuple",data := .seq items.toList.reverse.toArray } }) (hsz:items.size≤sizeLine):wpAny (model prog w) A (getItem (.ref t) (.ref sl)) Q E s:=by
 obtain ⟨os,q1,q2,q3⟩:=id hs
 have T:s.TypeIs (.ref sl) "slice" := ⟨os,q1,q2⟩
 have ok:sizeOk (.seq items.toList.reverse.toArray):=by
  show items.toList.reverse.toArray.size≤sizeLine
  rw [List.size_toArray,List.length_reverse,Array.length_toList]
  exact hsz
 unfold getItem
 try with_reducible refine wpAny_holding ?_
 first | refine wpAny_bind (wpAny_pure ?_) | skip
 refine wpAny_bind (wpAny_sequenceKey ht.typeIs (by decide) (wpAny_bind (wpAny_callSpecial?_slot (name:=Str.ofString "__getitem__") ht.typeIs PyProof.Rows.slot_tuple_getitem (wpAny_call_entry PyProof.Rows.slot_tuple_getitem ht.typeIs entry_tuple_getitem ?_ (args_tuple_getitem _ _)))))
 refine wpAny_bind (m:=Builtin.Tuple.tupleItemsOf (.ref t)) (tupleItemsOf_ ht (wpAny_bind (wpAny_typeOf T ?_)))
 rw [if_pos (by decide)]
 refine wpAny_bind (m:=Builtin.Slice.sliceApplied (.ref sl) (pure (items.size:Int))) ?_
 unfold Builtin.Slice.sliceApplied Builtin.Slice.sliceFields
 refine wpAny_bind (wpAny_bind (wpAny_field q1 q3 (x := .none) rfl (wpAny_bind (wpAny_field q1 q3 (x := .none) rfl (wpAny_bind (wpAny_field q1 q3 (x:=vk) rfl (wpAny_pure ?_)))))))
 refine wpAny_bind (qcp pk ?_)
 show wpAny (model prog w) _ (if ((-1:Int) == 0)=true then _ else _) _ _ s
 rw [if_neg (by decide)]
 refine wpAny_bind (slicePart_none (wpAny_bind (slicePart_none (wpAny_bind (wpAny_pure ?_)))))
 show wpAny (model prog w) _ (match Builtin.Slice.sliceAdjust none none (-1) (items.size:Int) with | (lo,hi)=>pure (lo,(-1:Int),Builtin.Slice.slicePlaces lo hi (-1))) _ _ s
 rw [qgo]
 show wpAny (model prog w) _ (pure (((items.size:Int) - 1),(-1:Int),Builtin.Slice.slicePlaces ((items.size:Int) - 1) (-1) (-1))) _ _ s
 rw [qf5]
 refine wpAny_pure ?_
 show wpAny (model prog w) _ (if (((items.size:Int) - 1) == 0 && (-1:Int) == 1 && items.size == items.size)=true then _ else _) _ _ s
 rw [if_neg (by simp),qis]
 first
  | exact wpAny_bind (m:=Builtin.Tuple.tupleExact _) (wpAny_newObj_type (wpAny_pure ⟨_,rfl,wpAny_pure h⟩) ok)
  | exact wpAny_bind (m:=Builtin.Tuple.tupleExact _) (wpAny_newObj_type (wpAny_bind (wpAny_pure (wpAny_pure ⟨_,rfl,wpAny_pure h⟩))) ok)
  | exact wpAny_bind (wpAny_bind (m:=Builtin.Tuple.tupleExact _) (wpAny_newObj_type (wpAny_pure (wpAny_pure ⟨_,rfl,wpAny_pure h⟩)) ok))
end
end HT
namespace L2
open PySem PySem.Spec PyProof.Rows MA
theorem qcq {X:Cx}:SlR X (fun x lo hi H Q=>∃ a xs,x = .ref a/\H a=some (.tup xs)/\∀ c H',Same H H'->H' c=some (.tup (cutV xs lo hi))->Q (.ref c) H'):=by
 intro pins s σ H x v vl vu lo hi sl Q I rx hs pl pu h
 obtain ⟨a,xs,e,hx,q⟩:=h
 by_cases hw:HT.sIx xs.length 0 lo=0/\HT.sIx xs.length xs.length hi=xs.length
 ·subst e
  cases rx
  obtain ⟨its,r,ht,hz⟩:=I.tuple (SqT.of (K:=X.K) hx)
  have hlen:its.toArray.size=xs.length:=by rw [List.size_toArray]; exact r.length.symm
  refine ⟨"tuple",_,PyProof.Rows.slot_tuple_getitem.lookup,ht.typeIs,HT.getItem_tuple_all ht hs pl pu (by rw [hlen]; exact hw) ⟨.ref a,H,I,rfl,q a H (Same.refl _) ?_⟩⟩
  have:cutV xs lo hi=xs:=by
   unfold cutV
   rw [hw.1,hw.2]
   simp
  rw [this]
  exact hx
 ·exact qk3 pins s σ H x v vl vu lo hi sl Q I rx hs pl pu ⟨a,xs,e,SqT.of hx,hw,fun p hp=>q p _ (sN hp _) uS⟩
section
variable {X:Cx}{e:Expr}{te:TE}{p2 p3 p4 pos:Pos}
def tRevT (te:TE):TE:=fun σ H Q=>te σ H fun x H1=>∃ a xs,x = .ref a/\H1 a=some (.tup xs)/\∀ p,H1 p=none->Q (.ref p) (upd H1 p (.tup xs.reverse))
theorem qjV {kk:_}(he:PE X e te):PE X (.Subscript e (.Slice none none (some (.UnaryOp .USub (.Constant (.int 1) kk p3) p4)) p2) pos) (tRevT te):=by
 intro pins s σ H Q I h
 refine Subscript_ (thn (he pins s σ H _ I h) fun v s1 ⟨x,H1,I1,r1,q1⟩=>?_)
 obtain ⟨a,xs,rfl,hx,q⟩:=q1
 have hst:PO X (some (.UnaryOp .USub (.Constant (.int 1) kk p3) p4)) (qjx (tUn (rU fun i => .int (-i)) (tC (.int 1)))):=qaz (qf7 qds pI)
 refine wpAny_Slice ?_
 rw [evalPart_none]
 refine wpAny_pure (wpAny_pure ?_)
 refine thn (hst pins s1 σ H1 (fun st H2=>st=some (-1)/\H2=H1) I1 ?_) fun vk s2 h2=>?_
 ·exact ⟨_,rfl,_,rfl,rfl,rfl⟩
 obtain ⟨st,H2,I2,pk,rfl,rfl⟩:=h2
 have I4:Inv X pins σ H2 { s2 with heap:=s2.heap.push { cls := .type "slice",data := .fields #[.none,.none,vk] } }:=I2.kept (t':=s2.toks) fun b ob q=>Heap.get?_push_of_some _ q
 cases r1
 obtain ⟨its,r,ht,hz⟩:=I4.tuple (SqT.of (K:=X.K) hx)
 have hlen:=r.length
 refine tail_any (T := "tuple") (ops:=[.ref a,.ref s2.heap.objs.size]) ht.typeIs slot_tuple_getitem.lookup ?_ (by with_unfolding_all rfl)
 refine HT.getItem_tuple_rev ht (Heap.IsSliceOf.new ..) pk ?_ (by rw [List.size_toArray] <;> omega)
 refine ⟨.ref _,_,I4.laid (t':=s2.toks) (o := .tup xs.reverse) (fun b ob q=>Heap.get?_push_of_some _ q) (Nat.le_refl _) ?_,rfl,q _ (I4.hok.fresh (Nat.le_refl _))⟩
 exact ⟨by rw [List.length_reverse]; exact hz,_,r.reverse,qbI.new _ _⟩
theorem qda:OpR X (binaryOp .Add) (fun x y H Q=>∃ a b xs ys,x = .ref a/\y = .ref b/\H a=some (.tup xs)/\H b=some (.tup ys)/\xs.length + ys.length≤1000/\∀ c H',Same H H'->H' c=some (.tup (xs ++ ys))->Q (.ref c) H'):=by
 intro pins s σ H x y v u Q I rx ry h
 obtain ⟨a,b,xs,ys,e1,e2,ha,hb,hz,q⟩:=h
 refine qfH pins s σ H x y v u Q I rx ry ⟨a,b,xs,ys,e1,e2,SqT.of ha,SqT.of hb,by rw [sizeLine_eq]; omega,fun e=>?_,fun _ e=>?_,fun _ _ p hp=>?_⟩
 ·subst e; exact q b H (Same.refl _) (by simpa using hb)
 ·subst e; exact q a H (Same.refl _) (by simpa using ha)
 ·exact q p _ (sN hp _) uS
theorem qj2:OpR X (binaryOp .Mult) (fun x y H Q=>∃ l k xs,x = .ref l/\y = .int k/\H l=some (.tup xs)/\xs≠[]/\0≤k/\k≤1000/\xs.length≤1000/\∀ c H',Same H H'->H' c=some (.tup (List.replicate k.toNat xs).flatten)->Q (.ref c) H'):=by
 intro pins s σ H x y v u Q I rx ry h
 obtain ⟨l,k,xs,e1,e2,hl,hne,k0,k1,hx,q⟩:=h
 refine qj1 pins s σ H x y v u Q I rx ry ⟨l,k,xs,e1,e2,hl,hne,k0,k1,hx,fun e=>?_,fun _ p hp=>?_⟩
 ·subst e; exact q l H (Same.refl _) (by simpa using hl)
 ·exact q p _ (sN hp _) uS
theorem rep1 (x:Int):∀ k:Nat,(List.replicate k [V.int x]).flatten=iv (List.replicate k x)
 | 0=>rfl
 | k + 1=>by rw [List.replicate_succ,List.flatten_cons,rep1 x k,List.replicate_succ]; rfl
end
open Classical in
noncomputable def res (H:Hp)(S:Addr->Prop):Hp:=fun a=>if S a then H a else none
theorem qdR {H:Hp}{S:Addr->Prop}{a:Addr}(h:S a):res H S a=H a:=by unfold res; rw [if_pos h]
theorem res_some {H:Hp}{S:Addr->Prop}{a:Addr}{o:HO}(h:res H S a=some o):S a/\H a=some o:=by
 unfold res at h
 by_cases c:S a
 ·rw [if_pos c] at h; exact ⟨c,h⟩
 ·rw [if_neg c] at h; cases h
theorem qil {H H':Hp}{S:Addr->Prop}(h:∀ a o,S a->H a=some o->H' a=some o):Same (res H S) (res H' S):=fun a o e=>by
 obtain ⟨c,e⟩:=res_some e
 rw [qdR c]; exact h a o c e
theorem qin {H:Hp}{S:Addr->Prop}:Same (res H S) H:=fun a o e=>(res_some e).2
end L2
namespace L2
open PySem PySem.Spec PyProof.Rows
end L2
namespace L2
open PySem PySem.Spec PyProof.Rows MA
end L2
namespace L2
open PySem PySem.Spec PyProof.Rows MA SeqAt
end L2
namespace PySem
open Sem (wp)
theorem qcM:typeLookup (.type "list") "keys" = pure none:=by rw [typeLookup_type,builtinLookup_eq_fast]; kernel_rfl
theorem qer {prog:Program}{w:World}{A:Around}{E:Value->Shared->Prop}{s:Shared}{a:Addr}{o:Obj}{xs:Array Value}{k:Nat}{Q:Option Value->Shared->Prop}
  (hx:s.heap.get? a=some o) (hc:o.cls = .type "list") (hdat:o.data = .seq xs k) (hd:o.dict=none) (hA:A.handled=none)
  (h:∀ h' tk,(∀ b u,s.heap.get? b=some u->h'.get? b=some u)->Q none { s with heap:=h',toks:=tk }) :
  wpAny (model prog w) A (getAttr? (.ref a) "keys") Q E s:=by
 have hmiss:=qcM
 obtain ⟨c,dct,dat,sl⟩:=o
 simp only at hc hdat hd
 subst hc hdat hd
 obtain ⟨hp,g,d,tk,os⟩:=s
 have hT:∀ tk',(⟨hp,g,d,tk',os⟩:Shared).TypeIs (.ref a) "list" := fun _=>⟨_,hx,rfl⟩
 have f1:=sub_AttributeError
 have f3:=F.slot_list_getattribute.lookup
 have f4:=F.slot_list_getattribute.bind (.ref a)
 have f5:=am_list_getattr_none
 unfold getAttr? getAttrBy? getAttrBy
 repeat (any_goals (first | assumption | exact hT _ | ((with_reducible show wpAny _ _ (call (Value.builtin "list.__getattribute__") _ _) _ _ _); refine call_meets F.slot_list_getattribute (hT _) am_entry_list_getattribute (F.args_list_getattribute_2 _ _) (meets_getattribute_miss_list a xs k sl "keys" _ hmiss (by decide) (by size_fits)) ⟨hx,hA,fun h' tk' e hx'=>?_⟩) | wp_step))
 obtain ⟨t',u',he⟩:=hx'.there
 have hTe:(⟨h',g,d,tk',os⟩:Shared).TypeIs (.ref e) "AttributeError" := ⟨_,he,rfl⟩
 show wpAny _ _ (getattributeRaised _ _ _ _ _ _ _) _ _ _
 unfold getattributeRaised
 repeat (any_goals (first | assumption | wp_step))
 exact h _ _ hx'.keeps
namespace F
theorem entry_dict_update_loop:entryFor table "dict.update.loop" = some Builtin.«dict.update.loop»:=entryFor_of_tree (by kernel_rfl)
theorem plain_dict_update_loop:plainId "dict.update.loop" = true:=by decide +kernel
end F
end PySem
namespace L2
open PySem PySem.Spec PyProof.Rows MA
end L2
namespace L2
open PySem PySem.Spec PyProof.Rows
end L2
namespace L2
open PySem PySem.Builtin PySem.Builtin.ObjectAttr PySem.Spec PyProof.Rows
end L2
namespace L2
open PySem PySem.Spec PyProof.Rows
end L2
namespace L2
end L2
namespace My
open PySem L2 MA
end My
namespace L2
end L2
namespace My
open PySem L2 MA
end My
namespace L2
open PySem PySem.Spec PyProof.Rows
end L2
namespace My
open PySem L2 MA
theorem qaL {H H':Hp}{l:Addr}(hl:H l=none)(s:Same H H')(o:HO):Same H (upd H' l o):=fun b u q=>by rw [uE (qaf q hl)]; exact s _ _ q
theorem qlS {ns:List Int}{j:Nat}{x:Int}(h:ns[j]?=some x):atI (iv ns) ((j:Nat):Int)=some (.int x):=qbO (by rw [List.getElem?_map,h]; rfl)
theorem qlt (ns:List Int)(j:Nat)(y:Int):(iv ns).set j (.int y)=iv (ns.set j y):=by show (ns.map V.int).set j (.int y)=(ns.set j y).map V.int; rw [List.map_set]
end My
namespace L2
open PySem PySem.Spec PyProof.Rows
end L2
namespace My
open PySem L2 MA
end My
namespace L2
open PySem PySem.Spec PyProof.Rows
end L2
namespace L2
open PySem PySem.Spec PyProof.Rows MA
section
variable {X:Cx}
theorem qck (hc:X.calm=true):qbP X (.builtin "sum") (fun xs H Q=>∃ (l:Addr) (ns:List Int),xs=[.ref l]/\H l=some (.tup (ns.map V.int))/\Q (.int ns.sum) H):=by
 intro pins s σ H xs us Q I r h
 obtain ⟨l,ns,rfl,hl,q⟩:=h
 obtain ⟨u,rfl,ru⟩:=vals1 r
 cases ru
 obtain ⟨its,rv,p,hz⟩:=I.tuple (SqT.of hl)
 have hi:=intsAre_of rv
 obtain ⟨ys,e⟩:=hi.allInts.items
 have hnum:ns=ys.toList.map (·.1):=by
  have h1:=hi.numsOf
  have h2:=nums_intItems ys
  rw [<- e] at h2
  rw [<- h1,<- h2]
 refine PySem.W.ktm_sumG (I.ok.hd hc) (xs:=ys) (by rw [<- e]; exact p) fun h' tk t' hk=>?_
 refine ⟨.int ns.sum,H,I.kept (t':=tk) hk,⟨t',?_⟩,q⟩
 rw [preSum_eq,List.take_of_length_le (by simp),hnum]
theorem qle (hu:X.A.units < cLine):OpR X (compareOp .NotEq) (fun x y H Q=>∃ p q xs,x = .ref p/\y = .ref q/\H p=some (.lst xs)/\H q=some (.lst [])/\Q (.bl (decide (xs≠[]))) H):=by
 intro pins s σ H x y v u Q I rx ry h
 obtain ⟨p,q,xs,rfl,rfl,h1,h2,k⟩:=h
 cases rx
 cases ry
 obtain ⟨us,r1,t1,z1⟩:=I.list (SqL.of h1)
 obtain ⟨ws,r2,t2,z2⟩:=I.list (SqL.of h2)
 cases r2
 by_cases e:xs=[]
 ·subst e
  cases r1
  refine PySem.W.cmp_ofNotEq (SeqAt.RcNeAt.lists (e:=fun _=>true) t1.isList t2.isList rfl hu (fun j a b=>absurd a (by simp)) X.prog X.w X.xe _ (qat I k ?_))
  simp
 ·have hl:=r1.length
  have hx:0 < xs.length:=List.length_pos_iff.mpr e
  refine PySem.W.cmp_ofNotEq (SeqAt.RcNeAt.lists_lengths t1.isList t2.isList (by simp; intro z; rw [z] at hl; simp at hl; exact e hl) hu X.prog X.w X.xe _ (qat I k ?_))
  simp [e]
end
end L2
namespace My
open PySem L2 MA
end My
namespace L2
open PySem PySem.Spec PyProof.Rows MA SeqAt
end L2
namespace My
open PySem L2 MA
end My
namespace L2
open PySem PySem.Spec PyProof.Rows
end L2
namespace L2
open PySem PySem.Spec PyProof.Rows MA SeqAt
end L2
namespace PySem.SeqAt
open AutoSeq1 (wpAny_loadPart')
open MeetsSeq MeetsSeq2 MeetsSeq3 SeqRoads2
end PySem.SeqAt
namespace L2
open PySem PySem.Spec PyProof.Rows MA
end L2
namespace L2
open PySem PySem.Spec PyProof.Rows
end L2
namespace PyProof.Rows
open PySem
end PyProof.Rows
namespace L2
open PySem PySem.Spec PyProof.Rows MA
end L2
namespace L2
open PySem PySem.Spec PyProof.Rows
theorem qiQ {K:PySem.W.Frag}{a b:Addr}{xs ys:List V}{g:TG}{tb:TS}{D:Ends}{σ:St}{H:Hp}(Pv:Nat->St->Hp->Prop)(hxy:ys.length≤xs.length)(h0:Pv 0 σ H)(hl:∀ i σ H,i≤ys.length->Pv i σ H->SqL K H a xs/\SqL K H b ys)
  (hs:∀ i x y p σ H,xs[i]?=some x->ys[i]?=some y->Pv i σ H->H p=none->g (.ref p) σ (upd H p (.tup [x,y])) fun σ2 H2=>tb { D with nx:=Pv (i + 1),ct:=Pv (i + 1),bk:=D.nx } σ2 H2) (hd:∀ σ H,Pv ys.length σ H->D.nx σ H) :
  ∃ W:Nat->Nat->St->Hp->Prop,(∃ m,W 0 m σ H)/\∀ i m σ H,W i m σ H ->
   ((Itz K a b).stop i H/\D.nx σ H)\/((Itz K a b).go i H/\∃ N:St->Hp->Prop,(∀ σ' H',N σ' H'->∃ m',m' < m/\W (i + 1) m' σ' H')/\∀ x H',(Itz K a b).yld i H x H'->g x σ H' fun σ2 H2=>tb { D with nx:=N,ct:=N,bk:=D.nx } σ2 H2):=by
 refine ⟨fun i m σ H=>m=ys.length - i/\i≤ys.length/\Pv i σ H,⟨ys.length,by simp,Nat.zero_le _,h0⟩,?_⟩
 rintro i m σ H ⟨rfl,hi,p⟩
 obtain ⟨q1,q2⟩:=hl i σ H hi p
 by_cases hlt:i < ys.length
 ·refine .inr ⟨⟨xs,ys,xs[i]'(by omega),ys[i],q1,q2,List.getElem?_eq_getElem (by omega),by simp [hlt]⟩,Pv (i + 1),fun σ' H' p'=>⟨ys.length - (i + 1),by omega,rfl,hlt,p'⟩,fun x H' y=>?_⟩
  obtain ⟨r,z1,z2,rfl,hr,rfl,hz⟩:=y
  obtain ⟨e1,e2⟩:=hz xs ys q1 q2
  exact hs i z1 z2 r σ H e1 e2 p hr
 ·have e:i=ys.length:=by omega
  subst e
  exact .inl ⟨⟨xs,ys,q1,q2,.inr (Nat.le_refl _)⟩,hd σ H p⟩
section
variable {X:Cx}{tg l:Expr}{tl:TE}
theorem qcy (K:PySem.W.Frag)(h:X.K=K):qbP X (.builtin "len") (fun xs H Q=>∃ p ys,xs=[.ref p]/\(SqL K H p ys\/SqT K H p ys)/\Q (.int ys.length) H):=by subst h; exact qaj
theorem qgk (K:PySem.W.Frag)(h:X.K=K):qbP X (.builtin "isinstance") (rIsi K):=by subst h; exact qaH
end
end L2
namespace My
open PySem L2 MA
end My
namespace PySem.SeqAt
open AutoSeq1 (wpAny_loadPart')
open MeetsSeq MeetsSeq2 MeetsSeq3
def qdG (A:Around)(s:Shared)(y x:Value)(b:Bool):Prop :=
 ∀ (prog:Program) (w:World) (E:Value->Shared->Prop) (Q:Value->Shared->Prop),Q (.bool b) s->wpAny (model prog w) A (richCompare .Lt y x) Q E s
theorem qf3 (l b:Addr)(items items2:Array Value)(n n2:Nat)(dd dd2:Option Addr)(sl sl2:Array (Option Value))(e f res:Nat->Bool)
  (r1:∀ i,i < min items.size items2.size->e i=true->res i=res (i + 1)) (r2:∀ i,i < min items.size items2.size->e i=false->res i=f i) (r3:∀ i,min items.size items2.size≤i->res i=decide (items.size < items2.size)) :
  Meets (Builtin.«tuple.__lt__» ⟨[.ref l,.ref b],[]⟩)
   (fun A R s=>s.heap.get? l=some { cls := .type "tuple",dict:=dd,data := .seq items n,slots:=sl }/\s.heap.get? b=some { cls := .type "tuple",dict:=dd2,data := .seq items2 n2,slots:=sl2 } /\
     (∀ j (h1:j < items.size) (h2:j < items2.size),EqAt A.in1 s items[j] items2[j] (e j))/\(∀ j (h1:j < items.size) (h2:j < items2.size),e j=false->qdG A.in1 s items[j] items2[j] (f j)) /\
     R (.ok (.ret (.bool (res 0)))) s) :=
 .of_wp fun prog w A R s h=>by
  obtain ⟨hp,g,d,tk,os⟩:=s; obtain ⟨hl,hb,he,hlt',h⟩:=h
  have f2:=AutoSeq1.sub_tuple_tuple
  have hZ:(items.toList.zip items2.toList).length=min items.size items2.size:=by simp
  wp_walk using wpAny_loadPart' hl,wpAny_loadPart' hb,wpAny_forIn_list _ (fun rest b s'=>b.1=none/\s'=⟨hp,g,d,tk,os⟩/\∃ i,rest=(items.toList.zip items2.toList).drop i /\
   R (.ok (.ret (.bool (res i)))) ⟨hp,g,d,tk,os⟩) _
  case turn =>
   rintro ⟨y,x⟩ rest b s' ⟨hb',rfl,i,hz,hR⟩
   have hlt:i < (items.toList.zip items2.toList).length:=by
    rcases Nat.lt_or_ge i (items.toList.zip items2.toList).length with h' | h'
    ·exact h'
    ·rw [List.drop_of_length_le h'] at hz; cases hz
   have hm:i < min items.size items2.size:=hZ ▸ hlt
   have h1:i < items.size:=Nat.lt_of_lt_of_le hm (Nat.min_le_left _ _)
   have h2:i < items2.size:=Nat.lt_of_lt_of_le hm (Nat.min_le_right _ _)
   rw [List.drop_eq_getElem_cons hlt] at hz
   injection hz with hyx hrest
   have hy:y=items[i]:=by have:=congrArg Prod.fst hyx; simpa using this
   have hx:x=items2[i]:=by have:=congrArg Prod.snd hyx; simpa using this
   subst hy hx
   refine wpAny_bind (he i h1 h2 prog w _ _ ?_)
   cases hy:e i with
   | true =>
    rw [r1 i hm hy] at hR
    wp_walk
    exact ⟨rfl,rfl,i + 1,hrest,hR⟩
   | false =>
    rw [r2 i hm hy] at hR
    have hc:=hlt' i h1 h2 hy
    simp only [Bool.not_false,if_true]
    refine wpAny_bind (wpAny_rule (wpAny_bind (hc prog w _ _ (wpAny_bind (wpAny_pure (wpAny_pure ?_))))))
    exact wpAny_pure ⟨_,rfl,hR⟩
  case fin =>
   rintro ⟨b1,b2⟩ s' ⟨hb',rfl,i,hz,hR⟩
   simp only at hb'
   subst hb'
   have hge:min items.size items2.size≤i:=by
    rcases Nat.lt_or_ge i (items.toList.zip items2.toList).length with h' | h'
    ·rw [List.drop_eq_getElem_cons h'] at hz; cases hz
    ·exact hZ ▸ h'
   rw [r3 i hge] at hR
   wp_walk
   exact ⟨_,rfl,by simpa [Builtin.Tuple.tupleCompareSizes] using hR⟩
  case h =>
   exact ⟨rfl,rfl,0,rfl,h⟩
section
variable {A:Around}{s:Shared}
theorem qdG.tuples {l b:Addr}{items items2:Array Value}{e f res:Nat->Bool}(hl:s.heap.IsTuple l items)(hb:s.heap.IsTuple b items2)(hu:A.units < cLine)
  (r1:∀ i,i < min items.size items2.size->e i=true->res i=res (i + 1)) (r2:∀ i,i < min items.size items2.size->e i=false->res i=f i) (r3:∀ i,min items.size items2.size≤i->res i=decide (items.size < items2.size))
  (he:∀ j (h1:j < items.size) (h2:j < items2.size),EqAt A.in1 s items[j] items2[j] (e j)) (hf:∀ j (h1:j < items.size) (h2:j < items2.size),e j=false->qdG A.in1 s items[j] items2[j] (f j)):qdG A s (.ref l) (.ref b) (res 0):=fun prog w E Q h=>by
 obtain ⟨⟨cls,dd,data,sl⟩,ho,hc,n,hd⟩:=id hl
 obtain ⟨⟨cls2,dd2,data2,sl2⟩,ho2,hc2,n2,hd2⟩:=id hb
 simp only at hc hd hc2 hd2
 subst hc hd hc2 hd2
 exact richCompare_meets_room (op := .Lt) ⟨_,ho,rfl⟩ ⟨_,ho2,rfl⟩ F.slot_tuple_lt F.entry_tuple_lt (F.args_tuple_lt_2 _ _) (qf3 l b items items2 n n2 dd dd2 sl sl2 e f res r1 r2 r3)
  ⟨ho,ho2,he,hf,show Value.bool (res 0)≠Value.notImplemented/\Q (.bool (res 0)) s from ⟨(fun x=>nomatch x),h⟩⟩ hu
end
end PySem.SeqAt
namespace Srt
open PySem PySem.W PyProof.Rows
structure Ord (c:Nat->Nat->Bool):Prop where
 asym:∀ i j,c i j=true->c j i=false
 tr:∀ i j k,c j i=false->c k j=false->c k i=false
abbrev at' (p:Array Nat)(i:Nat):Nat:=p.getD i 0
def Up (c:Nat->Nat->Bool)(p:Array Nat)(m:Nat):Prop:=∀ i j,i≤j->j < m->c (at' p j) (at' p i)=false
theorem at_of {p q:Array Nat}{i j:Nat}(h:p[i]?=q[j]?):at' p i=at' q j:=by
 unfold at'
 rw [Array.getD_eq_getD_getElem?,Array.getD_eq_getD_getElem?,h]
theorem qa7 {p:Array Nat}{i j:Nat}(hj:j≤p.size)(k:Nat):at' (kas_rev p i j) k=if i≤k/\k < j then at' p (i + j - 1 - k) else at' p k:=by
 have h:=getElem?_mirror_all (i:=i) hj k
 split at h
 ·rename_i q; rw [if_pos q]; exact at_of h
 ·rename_i q; rw [if_neg q]; exact at_of h
theorem qhY {p:Array Nat}{k l:Nat}(hk:k < p.size)(hl:l≤k)(i:Nat):at' (bubble p k (k - l)) i=if i=l then at' p k else if l < i/\i≤k then at' p (i - 1) else at' p i:=by
 have h:=getElem?_bubble hk (k - l) (by omega) i
 rw [show k - (k - l)=l by omega] at h
 split at h
 ·rename_i q; rw [if_pos q]; exact at_of h
 ·rename_i q; rw [if_neg q]
  split at h
  ·rename_i q; rw [if_pos q]; exact at_of h
  ·rename_i q; rw [if_neg q]; exact at_of h
def Of (n:Nat)(p:Array Nat):Prop:=p.Perm (List.toArray (List.range n))
theorem Of.size {n:Nat}{p:Array Nat}(h:Of n p):p.size=n:=by have:=h.size_eq; simpa using this
theorem Of.lt {n:Nat}{p:Array Nat}(h:Of n p){i:Nat}(hi:i < n):at' p i < n:=by
 have hs:=h.size
 have e:at' p i=p[i]'(by omega):=by unfold at'; simp [hs,hi]
 have hm:p[i]'(by omega)∈(List.range n):=by
  have:=(Array.perm_iff_toList_perm.mp h).mem_iff (a:=p[i]'(by omega))
  exact this.mp (by simp)
 rw [e]; exact List.mem_range.mp hm
theorem Of.rev {n:Nat}{p:Array Nat}(h:Of n p)(i j:Nat):Of n (kas_rev p i j):=(mirror_perm p i j _).trans h
theorem Of.bub {n:Nat}{p:Array Nat}(h:Of n p)(i j:Nat):Of n (bubble p i j):=(bubble_perm p i j).trans h
abbrev In (n:Nat)(i j:Nat):Prop:=i < n/\j < n/\i≠j
theorem Of.inn {n:Nat}{p:Array Nat}(h:Of n p){i j:Nat}(hi:i < n)(hj:j < n)(hne:i≠j):In n (at' p i) (at' p j):=by
 refine ⟨h.lt hi,h.lt hj,fun e=>hne ?_⟩
 have hs:=h.size
 have nd:p.toList.Nodup:=(Array.perm_iff_toList_perm.mp h).nodup_iff.mpr (by simpa using List.nodup_range)
 have e1:at' p i=p.toList[i]'(by simp; omega):=by unfold at'; simp [hs,hi]
 have e2:at' p j=p.toList[j]'(by simp; omega):=by unfold at'; simp [hs,hj]
 rw [e1,e2] at e
 have pw:=List.pairwise_iff_getElem.mp nd
 rcases Nat.lt_trichotomy i j with x | x | x
 ·exact absurd e (pw i j (by simp; omega) (by simp; omega) x)
 ·exact x
 ·exact absurd e.symm (pw j i (by simp; omega) (by simp; omega) x)
section
variable {c:Nat->Nat->Bool}(O:Ord c){n:Nat}
include O
theorem Ord.irr (i:Nat):c i i=false:=by
 cases h:c i i with
 | false=>rfl
 | true=>exact (O.asym i i h).symm.trans h ▸ rfl
end
def qkt:Bool->Keyed->Array Keyed->Nat->Nat->Nat->StateT SortSt Sem (Option Nat):=sortPriv% PySem.Builtin.gallop
section
variable {prog:Program}{w:World}{A:Around}{E:Value->Shared->Prop}{s:Shared}
theorem qac {arr:Array Keyed}{i:Nat}{x:Keyed}{st:SortSt}{Q:Keyed->SortSt->Prop}(h:arr[i]?=some x)(k:Q x st):wpS (model prog w) A E s (elem' arr i) Q st:=by
 rw [elem'_eq,h]
 exact wpS_pure k
theorem qaw {left:Bool}{key:Keyed}{arr:Array Keyed}{base n hint:Nat}{st:SortSt}{Q:Option Nat->SortSt->Prop}(B:Nat->Bool)(mono:∀ i j,i≤j->j < n->B j=true->B i=true)(hh:hint < n)
  (hb:∀ i,i < n->∃ x,arr[base + i]?=some x/\(∀ Q:Option Bool->SortSt->Prop,left=true->Q (some (B i)) st->wpS (model prog w) A E s (lt' x key) Q st)/\(∀ Q:Option Bool->SortSt->Prop,left=false->Q (some (!B i)) st->wpS (model prog w) A E s (lt' key x) Q st))
  (h:∀ k,k≤n->(∀ i,i < k->B i=true)->(∀ i,k≤i->i < n->B i=false)->Q (some k) st):wpS (model prog w) A E s (qkt left key arr base n hint) Q st:=by
 have byd:∀ i,i < n->∀ Q:Option Bool->SortSt->Prop,Q (some (B i)) st->wpS (model prog w) A E s (elem' arr (base + i) >>= fun x=>if left=true then lt' x key else lt' key x >>= fun r=>pure (r.map fun b=>!b)) Q st:=by
  intro i hi Q hQ
  obtain ⟨x,hx,h1,h2⟩:=hb i hi
  refine wpS_bind (qac hx ?_)
  cases left with
  | true=>rw [if_pos rfl]; exact h1 _ rfl hQ
  | false=>rw [if_neg (by decide)]; exact wpS_bind (h2 _ rfl (wpS_pure (by simpa using hQ)))
 have neg:∀ i j,i≤j->j < n->B i=false->B j=false:=fun i j hij hj hi=>by
  cases hB:B j with
  | false=>rfl
  | true=>rw [mono i j hij hj hB] at hi; exact hi
 refine wpS_bind (byd hint hh _ ?_)
 dsimp only
 cases hB:B hint with
 | true =>
  simp only [if_true]
  refine wpS_bind (wpS_mono (wpS_forRange (I:=fun x c st'=>st'=st/\∃ l o,c=(none,l,o)/\l < o/\x + 1≤o/\hint + l < n/\B (hint + l)=true)
   (Q:=fun c st'=>st'=st/\∃ l o,c=(none,l,o)/\l < o/\hint + l < n/\B (hint + l)=true/\(n - hint≤o\/(hint + o < n/\B (hint + o)=false))) ?_ ?_ ⟨rfl,0,1,rfl,by omega,by omega,by omega,hB⟩) ?_)
  ·rintro x c st' _ hx ⟨rfl,l,o,rfl,hlo,hxo,hl,hBl⟩
   dsimp only
   by_cases c:o ≥ n - hint
   ·rw [if_pos c]
    exact wpS_pure ⟨rfl,l,o,rfl,hlo,hl,hBl,.inl c⟩
   ·rw [if_neg c]
    refine wpS_bind (byd (hint + o) (by omega) _ ?_)
    dsimp only
    cases hBo:B (hint + o) with
    | true =>
     simp only [Bool.not_true,Bool.false_eq_true,if_false]
     exact wpS_pure ⟨rfl,o,_,rfl,by omega,by omega,by omega,hBo⟩
    | false =>
     simp only [Bool.not_false,if_true]
     exact wpS_pure ⟨rfl,l,o,rfl,hlo,hl,hBl,.inr ⟨by omega,hBo⟩⟩
  ·rintro c st' ⟨rfl,l,o,rfl,hlo,hxo,hl,hBl⟩
   exact ⟨rfl,l,o,rfl,hlo,hl,hBl,.inl (by omega)⟩
  ·rintro c st' ⟨rfl,l,o,rfl,hlo,hl,hBl,hor⟩
   have lo1:∀ i,i < hint + l + 1->B i=true:=fun i hi=>mono i (hint + l) (by omega) hl hBl
   have hi1:∀ i,hint + min o (n - hint)≤i->i < n->B i=false:=fun i h1 h2=>by
    rcases hor with z | ⟨z1,z2⟩
    ·omega
    ·exact neg (hint + o) i (by omega) h2 z2
   dsimp only
   refine wpS_bind (wpS_mono (wpS_forRange (I:=fun x c st''=>st''=st'/\∃ a b,c=(none,a,b)/\a≤b/\b≤n/\b - a≤n - x/\(∀ i,i < a->B i=true)/\∀ i,b≤i->i < n->B i=false)
    (Q:=fun c st''=>st''=st'/\∃ a,c=(none,a,a)/\a≤n/\(∀ i,i < a->B i=true)/\∀ i,a≤i->i < n->B i=false) ?_ ?_ ⟨rfl,_,_,rfl,by omega,by omega,by omega,lo1,hi1⟩) ?_)
   ·rintro x c st'' _ hx ⟨rfl,a,b,rfl,hab,hbn,hm,ha,hb'⟩
    dsimp only
    by_cases c:a ≥ b
    ·rw [if_pos c]
     have:a=b:=by omega
     subst this
     exact wpS_pure ⟨rfl,a,rfl,hbn,ha,hb'⟩
    ·rw [if_neg c]
     refine wpS_bind (byd (a + (b - a) / 2) (by omega) _ ?_)
     dsimp only
     cases hm':B (a + (b - a) / 2) with
     | true =>
      simp only [if_true]
      exact wpS_pure ⟨rfl,_,_,rfl,by omega,by omega,by omega,fun i hi=>mono i _ (by omega) (by omega) hm',hb'⟩
     | false =>
      simp only [Bool.false_eq_true,if_false]
      exact wpS_pure ⟨rfl,_,_,rfl,by omega,by omega,by omega,ha,fun i h1 h2=>neg _ i h1 h2 hm'⟩
   ·rintro c st'' ⟨rfl,a,b,rfl,hab,hbn,hm,ha,hb'⟩
    have:a=b:=by omega
    subst this
    exact ⟨rfl,a,rfl,hbn,ha,hb'⟩
   ·rintro c st'' ⟨rfl,a,rfl,han,ha,hb'⟩
    exact wpS_pure (h a han ha hb')
 | false =>
  simp only [Bool.false_eq_true,if_false]
  refine wpS_bind (wpS_mono (wpS_forRange (I:=fun x c st'=>st'=st/\∃ l o,c=(none,l,o)/\l < o/\x + 1≤o/\l≤hint/\B (hint - l)=false)
   (Q:=fun c st'=>st'=st/\∃ l o,c=(none,l,o)/\l < o/\l≤hint/\B (hint - l)=false/\(hint + 1≤o\/(o≤hint/\B (hint - o)=true))) ?_ ?_ ⟨rfl,0,1,rfl,by omega,by omega,by omega,hB⟩) ?_)
  ·rintro x c st' _ hx ⟨rfl,l,o,rfl,hlo,hxo,hl,hBl⟩
   dsimp only
   by_cases c:o ≥ hint + 1
   ·rw [if_pos c]
    exact wpS_pure ⟨rfl,l,o,rfl,hlo,hl,hBl,.inl c⟩
   ·rw [if_neg c]
    refine wpS_bind (byd (hint - o) (by omega) _ ?_)
    dsimp only
    cases hBo:B (hint - o) with
    | true =>
     simp only [if_true]
     exact wpS_pure ⟨rfl,l,o,rfl,hlo,hl,hBl,.inr ⟨by omega,hBo⟩⟩
    | false =>
     simp only [Bool.false_eq_true,if_false]
     exact wpS_pure ⟨rfl,o,_,rfl,by omega,by omega,by omega,hBo⟩
  ·rintro c st' ⟨rfl,l,o,rfl,hlo,hxo,hl,hBl⟩
   exact ⟨rfl,l,o,rfl,hlo,hl,hBl,.inl (by omega)⟩
  ·rintro c st' ⟨rfl,l,o,rfl,hlo,hl,hBl,hor⟩
   have hi1:∀ i,hint - l≤i->i < n->B i=false:=fun i h1 h2=>neg (hint - l) i h1 h2 hBl
   have lo1:∀ i,i < hint + 1 - min o (hint + 1)->B i=true:=fun i hi=>by
    rcases hor with z | ⟨z1,z2⟩
    ·omega
    ·exact mono i (hint - o) (by omega) (by omega) z2
   dsimp only
   refine wpS_bind (wpS_mono (wpS_forRange (I:=fun x c st''=>st''=st'/\∃ a b,c=(none,a,b)/\a≤b/\b≤n/\b - a≤n - x/\(∀ i,i < a->B i=true)/\∀ i,b≤i->i < n->B i=false)
    (Q:=fun c st''=>st''=st'/\∃ a,c=(none,a,a)/\a≤n/\(∀ i,i < a->B i=true)/\∀ i,a≤i->i < n->B i=false) ?_ ?_ ⟨rfl,_,_,rfl,by omega,by omega,by omega,lo1,hi1⟩) ?_)
   ·rintro x c st'' _ hx ⟨rfl,a,b,rfl,hab,hbn,hm,ha,hb'⟩
    dsimp only
    by_cases c:a ≥ b
    ·rw [if_pos c]
     have:a=b:=by omega
     subst this
     exact wpS_pure ⟨rfl,a,rfl,hbn,ha,hb'⟩
    ·rw [if_neg c]
     refine wpS_bind (byd (a + (b - a) / 2) (by omega) _ ?_)
     dsimp only
     cases hm':B (a + (b - a) / 2) with
     | true =>
      simp only [if_true]
      exact wpS_pure ⟨rfl,_,_,rfl,by omega,by omega,by omega,fun i hi=>mono i _ (by omega) (by omega) hm',hb'⟩
     | false =>
      simp only [Bool.false_eq_true,if_false]
      exact wpS_pure ⟨rfl,_,_,rfl,by omega,by omega,by omega,ha,fun i h1 h2=>neg _ i h1 h2 hm'⟩
   ·rintro c st'' ⟨rfl,a,b,rfl,hab,hbn,hm,ha,hb'⟩
    have:a=b:=by omega
    subst this
    exact ⟨rfl,a,rfl,hbn,ha,hb'⟩
   ·rintro c st'' ⟨rfl,a,rfl,han,ha,hb'⟩
    exact wpS_pure (h a han ha hb')
end
abbrev Asc (c:Nat->Nat->Bool)(l:List Nat):Prop:=l.Pairwise fun x y=>c y x=false
structure Mg (c:Nat->Nat->Bool)(la lb lo:List Nat)(ia ib:Nat):Prop where
 perm:(lo ++ la.drop ia ++ lb.drop ib).Perm (la ++ lb)
 srt:Asc c lo
 fa:∀ x∈lo,∀ y∈la.drop ia,c y x=false
 fb:∀ x∈lo,∀ y∈lb.drop ib,c y x=false
section
variable {c:Nat->Nat->Bool}{la lb lo:List Nat}{ia ib:Nat}
theorem Mg.takeA (h:Mg c la lb lo ia ib)(sa:Asc c la)(hi:ia < la.length)(hb:∀ y∈lb.drop ib,c y la[ia]=false):Mg c la lb (lo ++ [la[ia]]) (ia + 1) ib:=by
 have e:=List.drop_eq_getElem_cons hi
 have sd:Asc c (la.drop ia):=sa.sublist (List.drop_sublist _ _)
 have p:=h.perm
 have fa:=h.fa
 rw [e] at sd p fa
 refine ⟨?_,?_,?_,?_⟩
 ·simpa using p
 ·refine List.pairwise_append.mpr ⟨h.srt,List.pairwise_singleton _ _,fun x hx y hy=>?_⟩
  have ey:y=la[ia]:=List.mem_singleton.mp hy
  rw [ey]
  exact fa x hx _ List.mem_cons_self
 ·intro x hx y hy
  rcases List.mem_append.mp hx with q | q
  ·exact fa x q y (List.mem_cons_of_mem _ hy)
  ·have ex:x=la[ia]:=List.mem_singleton.mp q
   rw [ex]
   exact (List.pairwise_cons.mp sd).1 y hy
 ·intro x hx y hy
  rcases List.mem_append.mp hx with q | q
  ·exact h.fb x q y hy
  ·have ex:x=la[ia]:=List.mem_singleton.mp q
   rw [ex]
   exact hb y hy
theorem Mg.takeB (h:Mg c la lb lo ia ib)(sb:Asc c lb)(hi:ib < lb.length)(ha:∀ y∈la.drop ia,c y lb[ib]=false):Mg c la lb (lo ++ [lb[ib]]) ia (ib + 1):=by
 have e:=List.drop_eq_getElem_cons hi
 have sd:Asc c (lb.drop ib):=sb.sublist (List.drop_sublist _ _)
 have p:=h.perm
 have fb:=h.fb
 rw [e] at sd p fb
 refine ⟨?_,?_,?_,?_⟩
 ·refine List.Perm.trans ?_ p
  have:=(List.perm_middle (a:=lb[ib]) (l₁:=lo ++ la.drop ia) (l₂:=lb.drop (ib + 1))).symm
  refine List.Perm.trans ?_ this
  have q:=List.perm_middle (a:=lb[ib]) (l₁:=lo) (l₂:=la.drop ia ++ lb.drop (ib + 1))
  simpa using q
 ·refine List.pairwise_append.mpr ⟨h.srt,List.pairwise_singleton _ _,fun x hx y hy=>?_⟩
  have ey:y=lb[ib]:=List.mem_singleton.mp hy
  rw [ey]
  exact fb x hx _ List.mem_cons_self
 ·intro x hx y hy
  rcases List.mem_append.mp hx with q | q
  ·exact h.fa x q y hy
  ·have ex:x=lb[ib]:=List.mem_singleton.mp q
   rw [ex]
   exact ha y hy
 ·intro x hx y hy
  rcases List.mem_append.mp hx with q | q
  ·exact fb x q y (List.mem_cons_of_mem _ hy)
  ·have ex:x=lb[ib]:=List.mem_singleton.mp q
   rw [ex]
   exact (List.pairwise_cons.mp sd).1 y hy
theorem qea {l:List Nat}{i k:Nat}(h:i + k < l.length):(l.drop i).take (k + 1)=(l.drop i).take k ++ [l[i + k]]:=by
 rw [List.take_succ_eq_append_getElem (by rw [List.length_drop]; omega)]
 simp
theorem qbf (O:Ord c){l:List Nat}(s:Asc c l){i:Nat}(hi:i < l.length):∀ y∈l.drop i,c y l[i]=false:=by
 rw [List.drop_eq_getElem_cons hi]
 intro y hy
 rcases List.mem_cons.mp hy with rfl | q
 ·exact O.irr _
 ·have sd:Asc c (l.drop i):=s.sublist (List.drop_sublist _ _)
  rw [List.drop_eq_getElem_cons hi] at sd
  exact (List.pairwise_cons.mp sd).1 y q
theorem Mg.takeAs (O:Ord c)(h:Mg c la lb lo ia ib)(sa:Asc c la)(sb:Asc c lb)(hb:ib < lb.length):∀ (k:Nat),ia + k≤la.length->(∀ i,i < k->∀ q:ia + i < la.length,c lb[ib] la[ia + i]=false)->Mg c la lb (lo ++ (la.drop ia).take k) (ia + k) ib
 | 0,_,_=>by simpa using h
 | k + 1,hk,hc=>by
  have ih:=Mg.takeAs O h sa sb hb k (by omega) fun i hi=>hc i (by omega)
  rw [qea (by omega),<- List.append_assoc]
  refine ih.takeA sa (by omega) fun y hy=>?_
  exact O.tr _ _ _ (hc k (by omega) (by omega)) (qbf O sb hb y hy)
theorem Mg.takeBs (O:Ord c)(h:Mg c la lb lo ia ib)(sa:Asc c la)(sb:Asc c lb)(ha:ia < la.length):∀ (k:Nat),ib + k≤lb.length->(∀ i,i < k->∀ q:ib + i < lb.length,c lb[ib + i] la[ia]=true)->Mg c la lb (lo ++ (lb.drop ib).take k) ia (ib + k)
 | 0,_,_=>by simpa using h
 | k + 1,hk,hc=>by
  have ih:=Mg.takeBs O h sa sb ha k (by omega) fun i hi=>hc i (by omega)
  rw [qea (by omega),<- List.append_assoc]
  refine ih.takeB sb (by omega) fun y hy=>?_
  exact O.tr _ _ _ (O.asym _ _ (hc k (by omega) (by omega))) (qbf O sa ha y hy)
theorem Mg.endB (h:Mg c la lb lo ia lb.length)(sa:Asc c la):(lo ++ la.drop ia).Perm (la ++ lb)/\Asc c (lo ++ la.drop ia):=by
 have p:=h.perm
 rw [List.drop_length,List.append_nil] at p
 exact ⟨p,List.pairwise_append.mpr ⟨h.srt,sa.sublist (List.drop_sublist _ _),h.fa⟩⟩
theorem Mg.endA (h:Mg c la lb lo la.length ib)(sb:Asc c lb):(lo ++ lb.drop ib).Perm (la ++ lb)/\Asc c (lo ++ lb.drop ib):=by
 have p:=h.perm
 rw [List.drop_length,List.append_nil] at p
 exact ⟨p,List.pairwise_append.mpr ⟨h.srt,sb.sublist (List.drop_sublist _ _),h.fb⟩⟩
theorem Mg.last (h:Mg c la lb lo ia ib)(sb:Asc c lb)(hi:ia + 1=la.length)(hl:∀ y∈lb,c la[ia] y=false):(lo ++ lb.drop ib ++ la.drop ia).Perm (la ++ lb)/\Asc c (lo ++ lb.drop ib ++ la.drop ia):=by
 have e:la.drop ia=[la[ia]]:=by rw [List.drop_eq_getElem_cons (by omega),List.drop_of_length_le (by omega)]
 refine ⟨List.Perm.trans ?_ h.perm,?_⟩
 ·rw [List.append_assoc,List.append_assoc]
  exact List.Perm.append_left _ List.perm_append_comm
 ·refine List.pairwise_append.mpr ⟨List.pairwise_append.mpr ⟨h.srt,sb.sublist (List.drop_sublist _ _),h.fb⟩,by rw [e]; exact List.pairwise_singleton _ _,fun x hx y hy=>?_⟩
  rcases List.mem_append.mp hx with q | q
  ·exact h.fa x q y hy
  ·rw [e] at hy
   have ey:y=la[ia]:=List.mem_singleton.mp hy
   rw [ey]
   exact hl x (List.mem_of_mem_drop q)
end
def qiE:Array Keyed->Array Keyed->StateT SortSt Sem (Array Keyed):=sortPriv% PySem.Builtin.mergeLo
section
variable {prog:Program}{w:World}{A:Around}{E:Value->Shared->Prop}{s:Shared}
abbrev kvs (kv:Nat->Keyed)(l:List Nat):Array Keyed:=(l.map kv).toArray
abbrev qax (st:SortSt)(g:Nat):SortSt:=SortSt.mk' (kindOf st) (arrOf st) (pendingOf st) g (failedOf st)
theorem qap {kv:Nat->Keyed}{l:List Nat}{i:Nat}(h:i < l.length):(kvs kv l)[i]?=some (kv l[i]):=by simp [h]
theorem qak (kv:Nat->Keyed)(l:List Nat):(kvs kv l).size=l.length:=by simp
theorem qa5 (kv:Nat->Keyed)(l m:List Nat):kvs kv l ++ kvs kv m=kvs kv (l ++ m):=by simp
theorem qaZ (kv:Nat->Keyed)(l:List Nat)(x:Nat):(kvs kv l).push (kv x)=kvs kv (l ++ [x]):=by simp
theorem qdA (kv:Nat->Keyed)(l:List Nat)(i k:Nat):(kvs kv l).extract i (i + k)=kvs kv ((l.drop i).take k):=by
 apply Array.toList_inj.mp
 simp [List.extract_eq_take_drop,List.map_drop,List.map_take]
theorem qcw (kv:Nat->Keyed)(l:List Nat)(i:Nat):(kvs kv l).extract i (kvs kv l).size=kvs kv (l.drop i):=by
 apply Array.toList_inj.mp
 simp only [Array.toList_extract,List.extract_eq_take_drop,qak]
 rw [List.take_of_length_le (by simp),<- List.map_drop]
theorem qaa {l:List Nat}{i:Nat}(h:i < l.length):l.getD i 0=l[i]:=by simp [h]
theorem getD_mem {l:List Nat}{i:Nat}(h:i < l.length):l.getD i 0∈l:=by rw [qaa h]; exact List.getElem_mem h
theorem qb3 {c:Nat->Nat->Bool}(O:Ord c){l:List Nat}(s:Asc c l){i j:Nat}(hij:i≤j)(hj:j < l.length):c l[j] (l[i]'(by omega))=false:=by
 rcases Nat.lt_or_ge i j with q | q
 ·exact List.pairwise_iff_getElem.mp s i j (by omega) hj q
 ·have:i=j:=by omega
  subst this; exact O.irr _
theorem qcl {c:Nat->Nat->Bool}(O:Ord c){l:List Nat}(s:Asc c l){i j x:Nat}(hi:i < l.length)(hj:j < l.length)(hij:i≤j)(h:c l[j] x=true):c l[i] x=true:=by
 cases e:c l[i] x with
 | true=>rfl
 | false=>have:=O.tr _ _ _ e (qb3 O s hij hj); rw [this] at h; exact absurd h (by decide)
theorem qeQ {c:Nat->Nat->Bool}(O:Ord c){l:List Nat}(s:Asc c l){i j x:Nat}(hi:i < l.length)(hj:j < l.length)(hij:i≤j)(h:c x l[j]=false):c x l[i]=false:=O.tr _ _ _ (qb3 O s hij hj) h
theorem Mg.size {c:Nat->Nat->Bool}{la lb lo:List Nat}{ia ib:Nat}(h:Mg c la lb lo ia ib):lo.length + (la.length - ia) + (lb.length - ib)=la.length + lb.length:=by
 have:=h.perm.length_eq
 simp only [List.length_append,List.length_drop] at this
 omega
def Fin' (c:Nat->Nat->Bool)(kv:Nat->Keyed)(la lb:List Nat)(r:Array Keyed):Prop:=∃ l,r=kvs kv l/\l.Perm (la ++ lb)/\Asc c l
structure Jn (c:Nat->Nat->Bool)(la lb lo:List Nat)(ia ib:Nat):Prop where
 mg:Mg c la lb lo ia ib
 ha:ia + 1 < la.length
 hb:ib < lb.length
theorem qeS {c:Nat->Nat->Bool}(O:Ord c){kv:Nat->Keyed}{la lb:List Nat}{st:SortSt}{Q:Array Keyed->SortSt->Prop}(sa:Asc c la)(sb:Asc c lb)(a1:1≤la.length)(b1:1≤lb.length)
  (lt:∀ x∈la,∀ y∈lb,∀ (g:Nat) (Q:Option Bool->SortSt->Prop),Q (some (c x y)) (qax st g)->wpS (model prog w) A E s (lt' (kv x) (kv y)) Q (qax st g)) (gt:∀ x∈la,∀ y∈lb,∀ (g:Nat) (Q:Option Bool->SortSt->Prop),Q (some (c y x)) (qax st g)->wpS (model prog w) A E s (lt' (kv y) (kv x)) Q (qax st g))
  (hl:∀ y∈lb,c la[la.length - 1] y=false) (hf:∀ y∈la,c y lb[0]=false)
  (h:∀ (r:Array Keyed) (g:Nat),Fin' c kv la lb r->Q r (qax st g)):wpS (model prog w) A E s (qiE (kvs kv la) (kvs kv lb)) Q st:=by
 have m0:Mg c la lb [] 0 0:=⟨by simp,.nil,fun x hx=>by simp at hx,fun x hx=>by simp at hx⟩
 have m1:Mg c la lb [lb[0]] 0 1:=by
  have:=m0.takeB sb b1 fun y hy=>hf y (by simpa using hy)
  simpa using this
 have lastA:∀ {lo:List Nat} {ia ib:Nat},Mg c la lb lo ia ib->ia + 1=la.length->Fin' c kv la lb (kvs kv lo ++ (kvs kv lb).extract ib (kvs kv lb).size ++ (kvs kv la).extract ia (kvs kv la).size):=by
  intro lo ia ib m e
  have el:la[la.length - 1]=la[ia]:=by congr 1; omega
  obtain ⟨p,q⟩:=m.last sb e (fun y hy=>by rw [<- el]; exact hl y hy)
  exact ⟨_,by rw [qcw,qcw,qa5,qa5],p,q⟩
 have endB:∀ {lo:List Nat} {ia ib:Nat},Mg c la lb lo ia ib->ib=lb.length->Fin' c kv la lb (kvs kv lo ++ (kvs kv la).extract ia (kvs kv la).size ++ (kvs kv lb).extract ib (kvs kv lb).size):=by
  intro lo ia ib m e
  subst e
  obtain ⟨p,q⟩:=m.endB sa
  refine ⟨_,?_,p,q⟩
  rw [qcw,qcw,qa5,qa5,List.drop_length,List.append_nil]
 have endA:∀ {lo:List Nat} {ia ib:Nat},Mg c la lb lo ia ib->ia=la.length->Fin' c kv la lb (kvs kv lo ++ (kvs kv la).extract ia (kvs kv la).size ++ (kvs kv lb).extract ib (kvs kv lb).size):=by
  intro lo ia ib m e
  subst e
  obtain ⟨p,q⟩:=m.endA sb
  refine ⟨_,?_,p,q⟩
  rw [qcw,qcw,qa5,qa5,List.drop_length,List.append_nil]
 refine wpS_bind (wpS_lift (wpAny_rule ⟨rfl,?_⟩))
 refine wpS_bind (qac (x:=kv lb[0]) (qap b1) ?_)
 have e0:(#[kv lb[0]]:Array Keyed)=kvs kv [lb[0]]:=rfl
 dsimp only
 rw [e0]
 by_cases c1:1=lb.length
 ·rw [if_pos (by simpa using c1)]
  exact wpS_pure (h _ (gallopOf st) (endB m1 c1))
 rw [if_neg (by simpa using c1)]
 by_cases c2:0 + 1=la.length
 ·rw [if_pos (by simpa using c2)]
  exact wpS_pure (h _ (gallopOf st) (lastA m1 c2))
 rw [if_neg (by simpa using c2)]
 refine wpS_bind (wpS_get ?_)
 have j1:Jn c la lb [lb[0]] 0 1:=⟨m1,by omega,by omega⟩
 refine wpS_bind (wpS_mono (wpS_forRange (I:=fun x z st'=>(∃ g,st'=qax st g)/\∃ lo ia ib mg,z=(none,kvs kv lo,ia,ib,mg)/\Jn c la lb lo ia ib/\1 + x≤lo.length)
  (Q:=fun z st'=>(∃ g,st'=qax st g)/\∃ r t,z=(some r,t)/\Fin' c kv la lb r) ?_ ?_ ⟨⟨gallopOf st,rfl⟩,_,_,_,_,rfl,j1,by simp⟩) ?_)
 ·rintro x z st' _ hx ⟨⟨g,rfl⟩,lo,ia,ib,mg,rfl,j,hlen⟩
  dsimp only
  refine wpS_bind (wpS_mono (wpS_forRange (I:=fun x z st'=>st'=qax st g/\∃ lo' ia ib ac bc,z=(none,kvs kv lo',ia,ib,ac,bc)/\Jn c la lb lo' ia ib/\lo.length + x≤lo'.length)
   (Q:=fun z st'=>st'=qax st g/\((∃ r t,z=(some r,t)/\Fin' c kv la lb r)\/∃ lo' ia ib ac bc,z=(none,kvs kv lo',ia,ib,ac,bc)/\Jn c la lb lo' ia ib/\lo.length + 1≤lo'.length)) ?_ ?_ ⟨rfl,_,_,_,_,_,rfl,j,by simp⟩) ?_)
  ·rintro x z st' _ hx ⟨rfl,lo',ia,ib,ac,bc,rfl,j,hlen'⟩
   have ha:=j.ha
   have hb:=j.hb
   dsimp only
   refine wpS_bind (qac (qap hb) (wpS_bind (qac (qap (show ia < la.length by omega)) ?_)))
   refine wpS_bind (gt _ (List.getElem_mem _) _ (List.getElem_mem _) g _ ?_)
   dsimp only
   cases hw:c lb[ib] la[ia] with
   | true =>
    simp only [if_true]
    have m2:=j.mg.takeB sb hb fun y hy=>O.tr _ _ _ (O.asym _ _ hw) (qbf O sa (by omega) y hy)
    refine wpS_bind (qac (qap hb) ?_)
    rw [qaZ]
    by_cases e:ib + 1=lb.length
    ·rw [if_pos (by simpa using e)]
     exact wpS_pure ⟨rfl,.inl ⟨_,_,rfl,endB m2 e⟩⟩
    ·rw [if_neg (by simpa using e)]
     have j2:Jn c la lb (lo' ++ [lb[ib]]) ia (ib + 1):=⟨m2,ha,by omega⟩
     split
     ·exact wpS_pure ⟨rfl,.inr ⟨_,_,_,_,_,rfl,j2,by simp; omega⟩⟩
     ·exact wpS_pure ⟨rfl,_,_,_,_,_,rfl,j2,by simp; omega⟩
   | false =>
    simp only [Bool.false_eq_true,if_false]
    have m2:=j.mg.takeA sa (show ia < la.length by omega) fun y hy=>O.tr _ _ _ hw (qbf O sb hb y hy)
    refine wpS_bind (qac (qap (show ia < la.length by omega)) ?_)
    rw [qaZ]
    by_cases e:ia + 1 + 1=la.length
    ·rw [if_pos (by simpa using e)]
     exact wpS_pure ⟨rfl,.inl ⟨_,_,rfl,lastA m2 e⟩⟩
    ·rw [if_neg (by simpa using e)]
     have j2:Jn c la lb (lo' ++ [la[ia]]) (ia + 1) ib:=⟨m2,by omega,hb⟩
     split
     ·exact wpS_pure ⟨rfl,.inr ⟨_,_,_,_,_,rfl,j2,by simp; omega⟩⟩
     ·exact wpS_pure ⟨rfl,_,_,_,_,_,rfl,j2,by simp; omega⟩
  ·rintro z st' ⟨rfl,lo',ia,ib,ac,bc,rfl,j,hlen'⟩
   have:=j.mg.size
   have:=j.ha
   have:=j.hb
   simp at hlen'
   omega
  ·rintro z st' ⟨rfl,⟨r,t,rfl,hr⟩ | ⟨lo',ia,ib,ac,bc,rfl,j,hlen'⟩⟩
   ·exact wpS_pure ⟨⟨g,rfl⟩,_,_,rfl,hr⟩
   dsimp only
   refine wpS_bind (wpS_lift (wpAny_rule ⟨rfl,?_⟩))
   refine wpS_bind (wpS_mono (wpS_forRange (I:=fun x z st'=>(∃ g,st'=qax st g)/\∃ lo'' ia ib mg ac bc,z=(none,kvs kv lo'',ia,ib,mg,ac,bc)/\Jn c la lb lo'' ia ib/\lo'.length + x≤lo''.length)
    (Q:=fun z st'=>(∃ g,st'=qax st g)/\((∃ r t,z=(some r,t)/\Fin' c kv la lb r)\/∃ lo'' ia ib mg ac bc,z=(none,kvs kv lo'',ia,ib,mg,ac,bc)/\Jn c la lb lo'' ia ib/\lo'.length≤lo''.length)) ?_ ?_ ⟨⟨g,rfl⟩,_,_,_,_,_,_,rfl,j,by simp⟩) ?_)
   ·rintro x z st' _ hx ⟨⟨g',rfl⟩,lo2,ia,ib,mg,ac,bc,rfl,j,hlen2⟩
    have ha:=j.ha
    have hb:=j.hb
    dsimp only
    by_cases gg:mg > 1
    ·rw [if_pos gg]
     refine wpS_bind (wpS_modify ?_)
     refine wpS_bind (qac (qap hb) ?_)
     refine wpS_bind (qaw (st:=qax st (mg - 1)) (fun i=>!(c lb[ib] (la.getD (ia + i) 0))) (fun i j' hij hj q=>?_) (by rw [qak]; omega) (fun i hi=>⟨kv (la.getD (ia + i) 0),?_,fun Q' z _=>absurd z (by decide),fun Q' _ hQ=>gt _ (getD_mem (by rw [qak] at hi; omega)) _ (List.getElem_mem _) _ _ (by simpa using hQ)⟩) fun k hk hT hF=>?_)
     ·rw [qak] at hj
      rw [qaa (show ia + i < la.length by omega)]
      rw [qaa (show ia + j' < la.length by omega)] at q
      have q':c lb[ib] la[ia + j']=false:=by simpa using q
      have:=O.tr _ _ _ (qb3 O sa (i:=ia + i) (j:=ia + j') (by omega) (by omega)) q'
      simpa using qeQ O sa (by omega) (by omega) (by omega) q'
     ·rw [qak] at hi
      rw [qap (show ia + i < la.length by omega),qaa (show ia + i < la.length by omega)]
     rw [qak] at hk hF
     dsimp only
     have m2:=j.mg.takeAs O sa sb hb k (by omega) fun i hi q=>by
      have:=hT i hi
      rw [qaa q] at this
      simpa using this
     have hB2:∀ p,ia + k≤p->∀ q:p < la.length,c lb[ib] la[p]=true:=fun p hp q=>by
      have:=hF (p - ia) (by omega) (by omega)
      rw [show ia + (p - ia)=p by omega,qaa q] at this
      simpa using this
     by_cases k0:k > 0
     ·rw [if_pos k0,qdA,qa5]
      by_cases e1:ia + k + 1=la.length
      ·rw [if_pos (by simpa using e1)]
       exact wpS_pure ⟨⟨_,rfl⟩,.inl ⟨_,_,rfl,lastA m2 e1⟩⟩
      rw [if_neg (by simpa using e1)]
      by_cases e2:ia + k=la.length
      ·rw [if_pos (by simpa using e2)]
       exact wpS_pure ⟨⟨_,rfl⟩,.inl ⟨_,_,rfl,endA m2 e2⟩⟩
      rw [if_neg (by simpa using e2)]
      have hak:(ia + k) < la.length:=by omega
      have cut:c lb[ib] la[(ia + k)]=true:=hB2 (ia + k) (by omega) hak
      have m3:=m2.takeB sb hb fun y hy=>O.tr _ _ _ (O.asym _ _ cut) (qbf O sa hak y hy)
      refine wpS_bind (qac (qap hb) ?_)
      rw [qaZ]
      by_cases e3:ib + 1=lb.length
      ·rw [if_pos (by simpa using e3)]
       exact wpS_pure ⟨⟨_,rfl⟩,.inl ⟨_,_,rfl,endB m3 e3⟩⟩
      rw [if_neg (by simpa using e3)]
      refine wpS_bind (qac (qap hak) ?_)
      refine wpS_bind (qaw (st:=qax st (mg - 1)) (fun i=>c (lb.getD (ib + 1 + i) 0) la[(ia + k)]) (fun i j' hij hj q=>?_) (by rw [qak]; omega) (fun i hi=>⟨kv (lb.getD (ib + 1 + i) 0),?_,fun Q' _ hQ=>gt _ (List.getElem_mem _) _ (getD_mem (by rw [qak] at hi; omega)) _ _ hQ,fun Q' z _=>absurd z (by decide)⟩) fun k2 hk2 hT hF=>?_)
      ·rw [qak] at hj
       rw [qaa (show ib + 1 + i < lb.length by omega)]
       rw [qaa (show ib + 1 + j' < lb.length by omega)] at q
       exact qcl O sb (by omega) (by omega) (by omega) q
      ·rw [qak] at hi
       rw [qap (show ib + 1 + i < lb.length by omega),qaa (show ib + 1 + i < lb.length by omega)]
      rw [qak] at hk2 hF
      dsimp only
      have m4:=m3.takeBs O sa sb hak k2 (by omega) fun i hi q=>by
       have:=hT i hi
       rwa [qaa (show ib + 1 + i < lb.length by omega)] at this
      have fb2:∀ y∈lb.drop (ib + 1 + k2),c y la[(ia + k)]=false:=fun y hy=>by
       by_cases z:ib + 1 + k2 < lb.length
       ·have z2:=hF k2 (Nat.le_refl _) (by omega)
        rw [qaa z] at z2
        exact O.tr _ _ _ z2 (qbf O sb z y hy)
       ·rw [List.drop_of_length_le (by omega)] at hy
        simp at hy
      by_cases k20:k2 > 0
      ·rw [if_pos k20,qdA,qa5]
       by_cases e4:ib + 1 + k2=lb.length
       ·rw [if_pos (by simpa using e4)]
        exact wpS_pure ⟨⟨_,rfl⟩,.inl ⟨_,_,rfl,endB m4 e4⟩⟩
       rw [if_neg (by simpa using e4)]
       have m5:=m4.takeA sa hak fb2
       refine wpS_bind (qac (qap (show (ia + k) < la.length by omega)) ?_)
       rw [qaZ]
       by_cases e5:(ia + k) + 1 + 1=la.length
       ·rw [if_pos (by simpa using e5)]
        exact wpS_pure ⟨⟨_,rfl⟩,.inl ⟨_,_,rfl,lastA m5 e5⟩⟩
       rw [if_neg (by simpa using e5)]
       split
       ·exact wpS_pure ⟨⟨_,rfl⟩,.inr ⟨_,_,_,_,_,_,rfl,⟨m5,by omega,by omega⟩,by simp; omega⟩⟩
       ·exact wpS_pure ⟨⟨_,rfl⟩,_,_,_,_,_,_,rfl,⟨m5,by omega,by omega⟩,by simp; omega⟩
      ·rw [if_neg k20]
       obtain rfl:k2=0:=by omega
       have m5:=m3.takeA sa hak (by simpa using fb2)
       refine wpS_bind (qac (qap (show (ia + k) < la.length by omega)) ?_)
       rw [qaZ]
       by_cases e5:(ia + k) + 1 + 1=la.length
       ·rw [if_pos (by simpa using e5)]
        exact wpS_pure ⟨⟨_,rfl⟩,.inl ⟨_,_,rfl,lastA m5 e5⟩⟩
       rw [if_neg (by simpa using e5)]
       split
       ·exact wpS_pure ⟨⟨_,rfl⟩,.inr ⟨_,_,_,_,_,_,rfl,⟨m5,by omega,by omega⟩,by simp; omega⟩⟩
       ·exact wpS_pure ⟨⟨_,rfl⟩,_,_,_,_,_,_,rfl,⟨m5,by omega,by omega⟩,by simp; omega⟩
     ·rw [if_neg k0]
      obtain rfl:k=0:=by omega
      replace m2:=j.mg
      have hak:ia < la.length:=by omega
      have cut:c lb[ib] la[ia]=true:=hB2 ia (by omega) hak
      have m3:=m2.takeB sb hb fun y hy=>O.tr _ _ _ (O.asym _ _ cut) (qbf O sa hak y hy)
      refine wpS_bind (qac (qap hb) ?_)
      rw [qaZ]
      by_cases e3:ib + 1=lb.length
      ·rw [if_pos (by simpa using e3)]
       exact wpS_pure ⟨⟨_,rfl⟩,.inl ⟨_,_,rfl,endB m3 e3⟩⟩
      rw [if_neg (by simpa using e3)]
      refine wpS_bind (qac (qap hak) ?_)
      refine wpS_bind (qaw (st:=qax st (mg - 1)) (fun i=>c (lb.getD (ib + 1 + i) 0) la[ia]) (fun i j' hij hj q=>?_) (by rw [qak]; omega) (fun i hi=>⟨kv (lb.getD (ib + 1 + i) 0),?_,fun Q' _ hQ=>gt _ (List.getElem_mem _) _ (getD_mem (by rw [qak] at hi; omega)) _ _ hQ,fun Q' z _=>absurd z (by decide)⟩) fun k2 hk2 hT hF=>?_)
      ·rw [qak] at hj
       rw [qaa (show ib + 1 + i < lb.length by omega)]
       rw [qaa (show ib + 1 + j' < lb.length by omega)] at q
       exact qcl O sb (by omega) (by omega) (by omega) q
      ·rw [qak] at hi
       rw [qap (show ib + 1 + i < lb.length by omega),qaa (show ib + 1 + i < lb.length by omega)]
      rw [qak] at hk2 hF
      dsimp only
      have m4:=m3.takeBs O sa sb hak k2 (by omega) fun i hi q=>by
       have:=hT i hi
       rwa [qaa (show ib + 1 + i < lb.length by omega)] at this
      have fb2:∀ y∈lb.drop (ib + 1 + k2),c y la[ia]=false:=fun y hy=>by
       by_cases z:ib + 1 + k2 < lb.length
       ·have z2:=hF k2 (Nat.le_refl _) (by omega)
        rw [qaa z] at z2
        exact O.tr _ _ _ z2 (qbf O sb z y hy)
       ·rw [List.drop_of_length_le (by omega)] at hy
        simp at hy
      by_cases k20:k2 > 0
      ·rw [if_pos k20,qdA,qa5]
       by_cases e4:ib + 1 + k2=lb.length
       ·rw [if_pos (by simpa using e4)]
        exact wpS_pure ⟨⟨_,rfl⟩,.inl ⟨_,_,rfl,endB m4 e4⟩⟩
       rw [if_neg (by simpa using e4)]
       have m5:=m4.takeA sa hak fb2
       refine wpS_bind (qac (qap (show ia < la.length by omega)) ?_)
       rw [qaZ]
       by_cases e5:ia + 1 + 1=la.length
       ·rw [if_pos (by simpa using e5)]
        exact wpS_pure ⟨⟨_,rfl⟩,.inl ⟨_,_,rfl,lastA m5 e5⟩⟩
       rw [if_neg (by simpa using e5)]
       split
       ·exact wpS_pure ⟨⟨_,rfl⟩,.inr ⟨_,_,_,_,_,_,rfl,⟨m5,by omega,by omega⟩,by simp; omega⟩⟩
       ·exact wpS_pure ⟨⟨_,rfl⟩,_,_,_,_,_,_,rfl,⟨m5,by omega,by omega⟩,by simp; omega⟩
      ·rw [if_neg k20]
       obtain rfl:k2=0:=by omega
       have m5:=m3.takeA sa hak (by simpa using fb2)
       refine wpS_bind (qac (qap (show ia < la.length by omega)) ?_)
       rw [qaZ]
       by_cases e5:ia + 1 + 1=la.length
       ·rw [if_pos (by simpa using e5)]
        exact wpS_pure ⟨⟨_,rfl⟩,.inl ⟨_,_,rfl,lastA m5 e5⟩⟩
       rw [if_neg (by simpa using e5)]
       split
       ·exact wpS_pure ⟨⟨_,rfl⟩,.inr ⟨_,_,_,_,_,_,rfl,⟨m5,by omega,by omega⟩,by simp; omega⟩⟩
       ·exact wpS_pure ⟨⟨_,rfl⟩,_,_,_,_,_,_,rfl,⟨m5,by omega,by omega⟩,by simp; omega⟩
    ·rw [if_neg gg]
     refine wpS_bind (wpS_modify ?_)
     refine wpS_bind (qac (qap hb) ?_)
     refine wpS_bind (qaw (st:=qax st (mg)) (fun i=>!(c lb[ib] (la.getD (ia + i) 0))) (fun i j' hij hj q=>?_) (by rw [qak]; omega) (fun i hi=>⟨kv (la.getD (ia + i) 0),?_,fun Q' z _=>absurd z (by decide),fun Q' _ hQ=>gt _ (getD_mem (by rw [qak] at hi; omega)) _ (List.getElem_mem _) _ _ (by simpa using hQ)⟩) fun k hk hT hF=>?_)
     ·rw [qak] at hj
      rw [qaa (show ia + i < la.length by omega)]
      rw [qaa (show ia + j' < la.length by omega)] at q
      have q':c lb[ib] la[ia + j']=false:=by simpa using q
      have:=O.tr _ _ _ (qb3 O sa (i:=ia + i) (j:=ia + j') (by omega) (by omega)) q'
      simpa using qeQ O sa (by omega) (by omega) (by omega) q'
     ·rw [qak] at hi
      rw [qap (show ia + i < la.length by omega),qaa (show ia + i < la.length by omega)]
     rw [qak] at hk hF
     dsimp only
     have m2:=j.mg.takeAs O sa sb hb k (by omega) fun i hi q=>by
      have:=hT i hi
      rw [qaa q] at this
      simpa using this
     have hB2:∀ p,ia + k≤p->∀ q:p < la.length,c lb[ib] la[p]=true:=fun p hp q=>by
      have:=hF (p - ia) (by omega) (by omega)
      rw [show ia + (p - ia)=p by omega,qaa q] at this
      simpa using this
     by_cases k0:k > 0
     ·rw [if_pos k0,qdA,qa5]
      by_cases e1:ia + k + 1=la.length
      ·rw [if_pos (by simpa using e1)]
       exact wpS_pure ⟨⟨_,rfl⟩,.inl ⟨_,_,rfl,lastA m2 e1⟩⟩
      rw [if_neg (by simpa using e1)]
      by_cases e2:ia + k=la.length
      ·rw [if_pos (by simpa using e2)]
       exact wpS_pure ⟨⟨_,rfl⟩,.inl ⟨_,_,rfl,endA m2 e2⟩⟩
      rw [if_neg (by simpa using e2)]
      have hak:(ia + k) < la.length:=by omega
      have cut:c lb[ib] la[(ia + k)]=true:=hB2 (ia + k) (by omega) hak
      have m3:=m2.takeB sb hb fun y hy=>O.tr _ _ _ (O.asym _ _ cut) (qbf O sa hak y hy)
      refine wpS_bind (qac (qap hb) ?_)
      rw [qaZ]
      by_cases e3:ib + 1=lb.length
      ·rw [if_pos (by simpa using e3)]
       exact wpS_pure ⟨⟨_,rfl⟩,.inl ⟨_,_,rfl,endB m3 e3⟩⟩
      rw [if_neg (by simpa using e3)]
      refine wpS_bind (qac (qap hak) ?_)
      refine wpS_bind (qaw (st:=qax st (mg)) (fun i=>c (lb.getD (ib + 1 + i) 0) la[(ia + k)]) (fun i j' hij hj q=>?_) (by rw [qak]; omega) (fun i hi=>⟨kv (lb.getD (ib + 1 + i) 0),?_,fun Q' _ hQ=>gt _ (List.getElem_mem _) _ (getD_mem (by rw [qak] at hi; omega)) _ _ hQ,fun Q' z _=>absurd z (by decide)⟩) fun k2 hk2 hT hF=>?_)
      ·rw [qak] at hj
       rw [qaa (show ib + 1 + i < lb.length by omega)]
       rw [qaa (show ib + 1 + j' < lb.length by omega)] at q
       exact qcl O sb (by omega) (by omega) (by omega) q
      ·rw [qak] at hi
       rw [qap (show ib + 1 + i < lb.length by omega),qaa (show ib + 1 + i < lb.length by omega)]
      rw [qak] at hk2 hF
      dsimp only
      have m4:=m3.takeBs O sa sb hak k2 (by omega) fun i hi q=>by
       have:=hT i hi
       rwa [qaa (show ib + 1 + i < lb.length by omega)] at this
      have fb2:∀ y∈lb.drop (ib + 1 + k2),c y la[(ia + k)]=false:=fun y hy=>by
       by_cases z:ib + 1 + k2 < lb.length
       ·have z2:=hF k2 (Nat.le_refl _) (by omega)
        rw [qaa z] at z2
        exact O.tr _ _ _ z2 (qbf O sb z y hy)
       ·rw [List.drop_of_length_le (by omega)] at hy
        simp at hy
      by_cases k20:k2 > 0
      ·rw [if_pos k20,qdA,qa5]
       by_cases e4:ib + 1 + k2=lb.length
       ·rw [if_pos (by simpa using e4)]
        exact wpS_pure ⟨⟨_,rfl⟩,.inl ⟨_,_,rfl,endB m4 e4⟩⟩
       rw [if_neg (by simpa using e4)]
       have m5:=m4.takeA sa hak fb2
       refine wpS_bind (qac (qap (show (ia + k) < la.length by omega)) ?_)
       rw [qaZ]
       by_cases e5:(ia + k) + 1 + 1=la.length
       ·rw [if_pos (by simpa using e5)]
        exact wpS_pure ⟨⟨_,rfl⟩,.inl ⟨_,_,rfl,lastA m5 e5⟩⟩
       rw [if_neg (by simpa using e5)]
       split
       ·exact wpS_pure ⟨⟨_,rfl⟩,.inr ⟨_,_,_,_,_,_,rfl,⟨m5,by omega,by omega⟩,by simp; omega⟩⟩
       ·exact wpS_pure ⟨⟨_,rfl⟩,_,_,_,_,_,_,rfl,⟨m5,by omega,by omega⟩,by simp; omega⟩
      ·rw [if_neg k20]
       obtain rfl:k2=0:=by omega
       have m5:=m3.takeA sa hak (by simpa using fb2)
       refine wpS_bind (qac (qap (show (ia + k) < la.length by omega)) ?_)
       rw [qaZ]
       by_cases e5:(ia + k) + 1 + 1=la.length
       ·rw [if_pos (by simpa using e5)]
        exact wpS_pure ⟨⟨_,rfl⟩,.inl ⟨_,_,rfl,lastA m5 e5⟩⟩
       rw [if_neg (by simpa using e5)]
       split
       ·exact wpS_pure ⟨⟨_,rfl⟩,.inr ⟨_,_,_,_,_,_,rfl,⟨m5,by omega,by omega⟩,by simp; omega⟩⟩
       ·exact wpS_pure ⟨⟨_,rfl⟩,_,_,_,_,_,_,rfl,⟨m5,by omega,by omega⟩,by simp; omega⟩
     ·rw [if_neg k0]
      obtain rfl:k=0:=by omega
      replace m2:=j.mg
      have hak:ia < la.length:=by omega
      have cut:c lb[ib] la[ia]=true:=hB2 ia (by omega) hak
      have m3:=m2.takeB sb hb fun y hy=>O.tr _ _ _ (O.asym _ _ cut) (qbf O sa hak y hy)
      refine wpS_bind (qac (qap hb) ?_)
      rw [qaZ]
      by_cases e3:ib + 1=lb.length
      ·rw [if_pos (by simpa using e3)]
       exact wpS_pure ⟨⟨_,rfl⟩,.inl ⟨_,_,rfl,endB m3 e3⟩⟩
      rw [if_neg (by simpa using e3)]
      refine wpS_bind (qac (qap hak) ?_)
      refine wpS_bind (qaw (st:=qax st (mg)) (fun i=>c (lb.getD (ib + 1 + i) 0) la[ia]) (fun i j' hij hj q=>?_) (by rw [qak]; omega) (fun i hi=>⟨kv (lb.getD (ib + 1 + i) 0),?_,fun Q' _ hQ=>gt _ (List.getElem_mem _) _ (getD_mem (by rw [qak] at hi; omega)) _ _ hQ,fun Q' z _=>absurd z (by decide)⟩) fun k2 hk2 hT hF=>?_)
      ·rw [qak] at hj
       rw [qaa (show ib + 1 + i < lb.length by omega)]
       rw [qaa (show ib + 1 + j' < lb.length by omega)] at q
       exact qcl O sb (by omega) (by omega) (by omega) q
      ·rw [qak] at hi
       rw [qap (show ib + 1 + i < lb.length by omega),qaa (show ib + 1 + i < lb.length by omega)]
      rw [qak] at hk2 hF
      dsimp only
      have m4:=m3.takeBs O sa sb hak k2 (by omega) fun i hi q=>by
       have:=hT i hi
       rwa [qaa (show ib + 1 + i < lb.length by omega)] at this
      have fb2:∀ y∈lb.drop (ib + 1 + k2),c y la[ia]=false:=fun y hy=>by
       by_cases z:ib + 1 + k2 < lb.length
       ·have z2:=hF k2 (Nat.le_refl _) (by omega)
        rw [qaa z] at z2
        exact O.tr _ _ _ z2 (qbf O sb z y hy)
       ·rw [List.drop_of_length_le (by omega)] at hy
        simp at hy
      by_cases k20:k2 > 0
      ·rw [if_pos k20,qdA,qa5]
       by_cases e4:ib + 1 + k2=lb.length
       ·rw [if_pos (by simpa using e4)]
        exact wpS_pure ⟨⟨_,rfl⟩,.inl ⟨_,_,rfl,endB m4 e4⟩⟩
       rw [if_neg (by simpa using e4)]
       have m5:=m4.takeA sa hak fb2
       refine wpS_bind (qac (qap (show ia < la.length by omega)) ?_)
       rw [qaZ]
       by_cases e5:ia + 1 + 1=la.length
       ·rw [if_pos (by simpa using e5)]
        exact wpS_pure ⟨⟨_,rfl⟩,.inl ⟨_,_,rfl,lastA m5 e5⟩⟩
       rw [if_neg (by simpa using e5)]
       split
       ·exact wpS_pure ⟨⟨_,rfl⟩,.inr ⟨_,_,_,_,_,_,rfl,⟨m5,by omega,by omega⟩,by simp; omega⟩⟩
       ·exact wpS_pure ⟨⟨_,rfl⟩,_,_,_,_,_,_,rfl,⟨m5,by omega,by omega⟩,by simp; omega⟩
      ·rw [if_neg k20]
       obtain rfl:k2=0:=by omega
       have m5:=m3.takeA sa hak (by simpa using fb2)
       refine wpS_bind (qac (qap (show ia < la.length by omega)) ?_)
       rw [qaZ]
       by_cases e5:ia + 1 + 1=la.length
       ·rw [if_pos (by simpa using e5)]
        exact wpS_pure ⟨⟨_,rfl⟩,.inl ⟨_,_,rfl,lastA m5 e5⟩⟩
       rw [if_neg (by simpa using e5)]
       split
       ·exact wpS_pure ⟨⟨_,rfl⟩,.inr ⟨_,_,_,_,_,_,rfl,⟨m5,by omega,by omega⟩,by simp; omega⟩⟩
       ·exact wpS_pure ⟨⟨_,rfl⟩,_,_,_,_,_,_,rfl,⟨m5,by omega,by omega⟩,by simp; omega⟩
   ·rintro z st' ⟨⟨g',rfl⟩,lo2,ia,ib,mg,ac,bc,rfl,j,hlen2⟩
    have:=j.mg.size
    have:=j.ha
    have:=j.hb
    simp at hlen2
    omega
   ·rintro z st' ⟨⟨g',rfl⟩,⟨r,t,rfl,hr⟩ | ⟨lo2,ia,ib,mg,ac,bc,rfl,j,hlen2⟩⟩
    ·exact wpS_pure ⟨⟨g',rfl⟩,_,_,rfl,hr⟩
    dsimp only
    refine wpS_bind (wpS_modify ?_)
    exact wpS_pure ⟨⟨_,rfl⟩,_,_,_,_,rfl,j,by omega⟩
 ·rintro z st' ⟨⟨g,rfl⟩,lo,ia,ib,mg,rfl,j,hlen⟩
  have:=j.mg.size
  have:=j.ha
  have:=j.hb
  simp at hlen
  omega
 ·rintro z st' ⟨⟨g,rfl⟩,r,t,rfl,hr⟩
  exact wpS_pure (h r g hr)
end
def qiF:Array Keyed->Array Keyed->StateT SortSt Sem (Array Keyed):=sortPriv% PySem.Builtin.mergeHi
structure Mh (c:Nat->Nat->Bool)(la lb lo:List Nat)(na nb:Nat):Prop where
 perm:(la.take na ++ lb.take nb ++ lo).Perm (la ++ lb)
 srt:Asc c lo
 fa:∀ x∈la.take na,∀ y∈lo,c y x=false
 fb:∀ x∈lb.take nb,∀ y∈lo,c y x=false
section
variable {c:Nat->Nat->Bool}{la lb lo:List Nat}{na nb:Nat}
theorem qbu {l:List Nat}{n:Nat}(h:n < l.length):l.take (n + 1)=l.take n ++ [l[n]]:=List.take_succ_eq_append_getElem h
theorem qdJ (O:Ord c){l:List Nat}(s:Asc c l){i:Nat}(hi:i < l.length):∀ y∈l.take (i + 1),c l[i] y=false:=by
 intro y hy
 obtain ⟨j,hj,rfl⟩:=List.mem_iff_getElem.mp hy
 rw [List.length_take] at hj
 rw [List.getElem_take]
 exact qb3 O s (by omega) hi
theorem Mh.takeA (O:Ord c)(h:Mh c la lb lo (na + 1) nb)(sa:Asc c la)(hi:na < la.length)(hb:∀ y∈lb.take nb,c la[na] y=false):Mh c la lb (la[na] :: lo) na nb:=by
 have e:=qbu hi
 have p:=h.perm
 have fa:=h.fa
 rw [e] at p fa
 refine ⟨?_,?_,?_,?_⟩
 ·refine List.Perm.trans ?_ p
  have q:=List.perm_middle (a:=la[na]) (l₁:=la.take na ++ lb.take nb) (l₂:=lo)
  have q2:=(List.perm_middle (a:=la[na]) (l₁:=la.take na) (l₂:=lb.take nb ++ lo)).symm
  refine q.trans ?_
  simpa only [List.append_assoc,List.cons_append,List.nil_append] using q2
 ·exact List.pairwise_cons.mpr ⟨fun y hy=>fa _ (List.mem_append_right _ List.mem_cons_self) y hy,h.srt⟩
 ·intro x hx y hy
  rcases List.mem_cons.mp hy with ey | q
  ·rw [ey]; exact qdJ O sa hi x (by rw [e]; exact List.mem_append_left _ hx)
  ·exact fa x (List.mem_append_left _ hx) y q
 ·intro x hx y hy
  rcases List.mem_cons.mp hy with ey | q
  ·rw [ey]; exact hb x hx
  ·exact h.fb x hx y q
theorem Mh.takeB (O:Ord c)(h:Mh c la lb lo na (nb + 1))(sb:Asc c lb)(hi:nb < lb.length)(ha:∀ y∈la.take na,c lb[nb] y=false):Mh c la lb (lb[nb] :: lo) na nb:=by
 have e:=qbu hi
 have p:=h.perm
 have fb:=h.fb
 rw [e] at p fb
 refine ⟨?_,?_,?_,?_⟩
 ·refine List.Perm.trans ?_ p
  simp only [List.append_assoc,List.cons_append,List.nil_append]
  exact List.Perm.refl _
 ·exact List.pairwise_cons.mpr ⟨fun y hy=>fb _ (List.mem_append_right _ List.mem_cons_self) y hy,h.srt⟩
 ·intro x hx y hy
  rcases List.mem_cons.mp hy with ey | q
  ·rw [ey]; exact ha x hx
  ·exact h.fa x hx y q
 ·intro x hx y hy
  rcases List.mem_cons.mp hy with ey | q
  ·rw [ey]; exact qdJ O sb hi x (by rw [e]; exact List.mem_append_left _ hx)
  ·exact fb x (List.mem_append_left _ hx) y q
theorem Mh.takeAs (O:Ord c)(sa:Asc c la)(sb:Asc c lb)(hb1:0 < nb)(hb:nb≤lb.length):∀ (k na:Nat) {lo:List Nat},Mh c la lb lo na nb->k≤na->na≤la.length->(∀ p,na - k≤p->p < na->∀ q:p < la.length,c lb[nb - 1] la[p]=true)->Mh c la lb ((la.take na).drop (na - k) ++ lo) (na - k) nb
 | 0,na,lo,h,_,hn,_=>by
  rw [Nat.sub_zero,List.drop_of_length_le (by rw [List.length_take]; omega)]
  exact h
 | k + 1,na,lo,h,hk,hn,hc=>by
  obtain ⟨n,rfl⟩:∃ n,na=n + 1:=⟨na - 1,by omega⟩
  have hq:n < la.length:=by omega
  have h2:=h.takeA O sa hq fun y hy=>by
   obtain ⟨j,hj,rfl⟩:=List.mem_iff_getElem.mp hy
   rw [List.length_take] at hj
   rw [List.getElem_take]
   exact O.tr _ _ _ (qb3 O sb (i:=j) (j:=nb - 1) (by omega) (by omega)) (O.asym _ _ (hc n (by omega) (by omega) hq))
  have:=Mh.takeAs O sa sb hb1 hb k n h2 (by omega) (by omega) fun p h1 h3 q=>hc p (by omega) (by omega) q
  have e:(la.take (n + 1)).drop (n + 1 - (k + 1))=(la.take n).drop (n - k) ++ [la[n]]:=by
   rw [qbu hq,show n + 1 - (k + 1)=n - k by omega,List.drop_append_of_le_length (by rw [List.length_take]; omega)]
  rw [e,List.append_assoc,show n + 1 - (k + 1)=n - k by omega]
  exact this
theorem Mh.takeBs (O:Ord c)(sa:Asc c la)(sb:Asc c lb)(ha1:0 < na)(ha:na≤la.length):∀ (k nb:Nat) {lo:List Nat},Mh c la lb lo na nb->k≤nb->nb≤lb.length->(∀ p,nb - k≤p->p < nb->∀ q:p < lb.length,c lb[p] la[na - 1]=false)->Mh c la lb ((lb.take nb).drop (nb - k) ++ lo) na (nb - k)
 | 0,nb,lo,h,_,hn,_=>by
  rw [Nat.sub_zero,List.drop_of_length_le (by rw [List.length_take]; omega)]
  exact h
 | k + 1,nb,lo,h,hk,hn,hc=>by
  obtain ⟨n,rfl⟩:∃ n,nb=n + 1:=⟨nb - 1,by omega⟩
  have hq:n < lb.length:=by omega
  have h2:=h.takeB O sb hq fun y hy=>by
   obtain ⟨j,hj,rfl⟩:=List.mem_iff_getElem.mp hy
   rw [List.length_take] at hj
   rw [List.getElem_take]
   exact O.tr _ _ _ (qb3 O sa (i:=j) (j:=na - 1) (by omega) (by omega)) (hc n (by omega) (by omega) hq)
  have:=Mh.takeBs O sa sb ha1 ha k n h2 (by omega) (by omega) fun p h1 h3 q=>hc p (by omega) (by omega) q
  have e:(lb.take (n + 1)).drop (n + 1 - (k + 1))=(lb.take n).drop (n - k) ++ [lb[n]]:=by
   rw [qbu hq,show n + 1 - (k + 1)=n - k by omega,List.drop_append_of_le_length (by rw [List.length_take]; omega)]
  rw [e,List.append_assoc,show n + 1 - (k + 1)=n - k by omega]
  exact this
theorem Mh.endA (h:Mh c la lb lo 0 nb)(sb:Asc c lb):(lb.take nb ++ lo).Perm (la ++ lb)/\Asc c (lb.take nb ++ lo):=by
 have p:=h.perm
 rw [List.take_zero,List.nil_append] at p
 exact ⟨p,List.pairwise_append.mpr ⟨sb.sublist (List.take_sublist _ _),h.srt,fun x hx y hy=>h.fb x hx y hy⟩⟩
theorem Mh.endB (h:Mh c la lb lo na 0)(sa:Asc c la):(la.take na ++ lo).Perm (la ++ lb)/\Asc c (la.take na ++ lo):=by
 have p:=h.perm
 rw [List.take_zero,List.append_nil] at p
 exact ⟨p,List.pairwise_append.mpr ⟨sa.sublist (List.take_sublist _ _),h.srt,fun x hx y hy=>h.fa x hx y hy⟩⟩
theorem Mh.first (h:Mh c la lb lo na 1)(sa:Asc c la)(b1:0 < lb.length)(hl:∀ y∈la,c y lb[0]=false):(lb.take 1 ++ la.take na ++ lo).Perm (la ++ lb)/\Asc c (lb.take 1 ++ la.take na ++ lo):=by
 have e:lb.take 1=[lb[0]]:=by rw [qbu b1]; rfl
 refine ⟨List.Perm.trans (List.Perm.append_right _ List.perm_append_comm) h.perm,?_⟩
 refine List.pairwise_append.mpr ⟨List.pairwise_append.mpr ⟨by rw [e]; exact List.pairwise_singleton _ _,sa.sublist (List.take_sublist _ _),fun x hx y hy=>?_⟩,h.srt,fun x hx y hy=>?_⟩
 ·rw [e] at hx
  rw [List.mem_singleton.mp hx]
  exact hl y (List.mem_of_mem_take hy)
 ·rcases List.mem_append.mp hx with q | q
  ·exact h.fb x q y hy
  ·exact h.fa x q y hy
theorem Mh.size (h:Mh c la lb lo na nb)(ha:na≤la.length)(hb:nb≤lb.length):na + nb + lo.length=la.length + lb.length:=by
 have:=h.perm.length_eq
 simp only [List.length_append,List.length_take] at this
 omega
end
section
variable {prog:Program}{w:World}{A:Around}{E:Value->Shared->Prop}{s:Shared}
theorem qfN (kv:Nat->Keyed)(l:List Nat):(kvs kv l).reverse=kvs kv l.reverse:=by simp
theorem qch (kv:Nat->Keyed)(l:List Nat)(i n:Nat):(kvs kv l).extract i n=kvs kv ((l.take n).drop i):=by
 apply Array.toList_inj.mp
 simp only [Array.toList_extract,List.extract_eq_take_drop]
 rw [<- List.map_drop,<- List.map_take]
 congr 1
 rw [List.drop_take]
theorem qcv (kv:Nat->Keyed)(l:List Nat)(n:Nat):(kvs kv l).extract 0 n=kvs kv (l.take n):=by rw [qch,List.drop_zero]
structure Jh (c:Nat->Nat->Bool)(la lb lo:List Nat)(na nb:Nat):Prop where
 mh:Mh c la lb lo na nb
 a0:0 < na
 a1:na≤la.length
 b0:1 < nb
 b1:nb≤lb.length
theorem qeT {c:Nat->Nat->Bool}(O:Ord c){kv:Nat->Keyed}{la lb:List Nat}{st:SortSt}{Q:Array Keyed->SortSt->Prop}(sa:Asc c la)(sb:Asc c lb)(a1:1≤la.length)(b1:1≤lb.length)
  (gt:∀ x∈la,∀ y∈lb,∀ (g:Nat) (Q:Option Bool->SortSt->Prop),Q (some (c y x)) (qax st g)->wpS (model prog w) A E s (lt' (kv y) (kv x)) Q (qax st g))
  (hl:∀ y∈lb,c la[la.length - 1] y=false) (hf:∀ y∈la,c y lb[0]=false)
  (h:∀ (r:Array Keyed) (g:Nat),Fin' c kv la lb r->Q r (qax st g)):wpS (model prog w) A E s (qiF (kvs kv la) (kvs kv lb)) Q st:=by
 have m1:Mh c la lb [la[la.length - 1]] (la.length - 1) lb.length:=by
  have m0:Mh c la lb [] (la.length - 1 + 1) lb.length:=⟨by rw [List.take_of_length_le (by omega),List.take_of_length_le (by omega)]; simp,.nil,fun x hx y hy=>by simp at hy,fun x hx y hy=>by simp at hy⟩
  exact m0.takeA O sa (by omega) fun y hy=>hl y (List.mem_of_mem_take hy)
 have firstB:∀ {lo:List Nat} {na nb:Nat},Mh c la lb lo na nb->nb=1->Fin' c kv la lb ((kvs kv lb).extract 0 nb ++ (kvs kv la).extract 0 na ++ (kvs kv lo.reverse).reverse):=by
  intro lo na nb m e
  subst e
  obtain ⟨p,q⟩:=m.first sa b1 hf
  exact ⟨_,by rw [qcv,qcv,qfN,List.reverse_reverse,qa5,qa5],p,q⟩
 have endA:∀ {lo:List Nat} {na nb:Nat},Mh c la lb lo na nb->na=0->Fin' c kv la lb ((kvs kv la).extract 0 na ++ (kvs kv lb).extract 0 nb ++ (kvs kv lo.reverse).reverse):=by
  intro lo na nb m e
  subst e
  obtain ⟨p,q⟩:=m.endA sb
  refine ⟨_,?_,p,q⟩
  rw [qcv,qcv,qfN,List.reverse_reverse,qa5,qa5,List.take_zero,List.nil_append]
 have endB:∀ {lo:List Nat} {na nb:Nat},Mh c la lb lo na nb->nb=0->Fin' c kv la lb ((kvs kv la).extract 0 na ++ (kvs kv lb).extract 0 nb ++ (kvs kv lo.reverse).reverse):=by
  intro lo na nb m e
  subst e
  obtain ⟨p,q⟩:=m.endB sa
  refine ⟨_,?_,p,q⟩
  rw [qcv,qcv,qfN,List.reverse_reverse,qa5,qa5,List.take_zero,List.append_nil]
 have push1:∀ (lo:List Nat) (x:Nat),(kvs kv lo.reverse).push (kv x)=kvs kv (x :: lo).reverse:=fun lo x=>by rw [qaZ,List.reverse_cons]
 have app1:∀ (lo l:List Nat),kvs kv lo.reverse ++ (kvs kv l).reverse=kvs kv (l ++ lo).reverse:=fun lo l=>by rw [qfN,qa5,List.reverse_append]
 refine wpS_bind (wpS_lift (wpAny_rule ⟨rfl,?_⟩))
 refine wpS_bind (qac (x:=kv la[la.length - 1]) (by rw [qak]; exact qap (by omega)) ?_)
 have e0:(#[kv la[la.length - 1]]:Array Keyed)=kvs kv [la[la.length - 1]].reverse:=rfl
 dsimp only
 rw [e0]
 simp only [qak]
 by_cases c1:la.length - 1=0
 ·rw [if_pos (by simpa using c1)]
  exact wpS_pure (h _ (gallopOf st) (endA m1 c1))
 rw [if_neg (by simpa using c1)]
 by_cases c2:lb.length=1
 ·rw [if_pos (by simpa using c2)]
  exact wpS_pure (h _ (gallopOf st) (firstB m1 c2))
 rw [if_neg (by simpa using c2)]
 refine wpS_bind (wpS_get ?_)
 have j1:Jh c la lb [la[la.length - 1]] (la.length - 1) lb.length:=⟨m1,by omega,by omega,by omega,by omega⟩
 refine wpS_bind (wpS_mono (wpS_forRange (I:=fun x z st'=>(∃ g,st'=qax st g)/\∃ lo na nb mg,z=(none,na,nb,kvs kv lo.reverse,mg)/\Jh c la lb lo na nb/\1 + x≤lo.length)
  (Q:=fun z st'=>(∃ g,st'=qax st g)/\∃ r t,z=(some r,t)/\Fin' c kv la lb r) ?_ ?_ ⟨⟨gallopOf st,rfl⟩,_,_,_,_,rfl,j1,by simp⟩) ?_)
 ·rintro x z st' _ hx ⟨⟨g,rfl⟩,lo,na,nb,mg,rfl,j,hlen⟩
  dsimp only
  refine wpS_bind (wpS_mono (wpS_forRange (I:=fun x z st'=>st'=qax st g/\∃ lo' na nb ac bc,z=(none,na,nb,kvs kv lo'.reverse,ac,bc)/\Jh c la lb lo' na nb/\lo.length + x≤lo'.length)
   (Q:=fun z st'=>st'=qax st g/\((∃ r t,z=(some r,t)/\Fin' c kv la lb r)\/∃ lo' na nb ac bc,z=(none,na,nb,kvs kv lo'.reverse,ac,bc)/\Jh c la lb lo' na nb/\lo.length + 1≤lo'.length)) ?_ ?_ ⟨rfl,_,_,_,_,_,rfl,j,by simp⟩) ?_)
  ·rintro x z st' _ hx ⟨rfl,lo',na,nb,ac,bc,rfl,j,hlen'⟩
   have a0:=j.a0
   have a1':=j.a1
   have b0:=j.b0
   have b1':=j.b1
   obtain ⟨n,rfl⟩:∃ n,na=n + 1:=⟨na - 1,by omega⟩
   obtain ⟨m,rfl⟩:∃ m,nb=m + 1:=⟨nb - 1,by omega⟩
   have hn:n < la.length:=by omega
   have hm:m < lb.length:=by omega
   dsimp only
   simp only [Nat.add_sub_cancel]
   refine wpS_bind (qac (qap hm) (wpS_bind (qac (qap hn) ?_)))
   refine wpS_bind (gt _ (List.getElem_mem _) _ (List.getElem_mem _) g _ ?_)
   dsimp only
   cases hw:c lb[m] la[n] with
   | true =>
    simp only [if_true]
    have m2:=j.mh.takeA O sa hn fun y hy=>O.tr _ _ _ (qdJ O sb hm y hy) (O.asym _ _ hw)
    refine wpS_bind (qac (qap hn) ?_)
    rw [push1]
    by_cases e:n=0
    ·rw [if_pos (by simpa using e)]
     exact wpS_pure ⟨rfl,.inl ⟨_,_,rfl,endA m2 e⟩⟩
    ·rw [if_neg (by simpa using e)]
     have j2:Jh c la lb (la[n] :: lo') n (m + 1):=⟨m2,by omega,by omega,b0,b1'⟩
     split
     ·exact wpS_pure ⟨rfl,.inr ⟨_,_,_,_,_,rfl,j2,by simp; omega⟩⟩
     ·exact wpS_pure ⟨rfl,_,_,_,_,_,rfl,j2,by simp; omega⟩
   | false =>
    simp only [Bool.false_eq_true,if_false]
    have m2:=j.mh.takeB O sb hm fun y hy=>O.tr _ _ _ (qdJ O sa hn y hy) hw
    refine wpS_bind (qac (qap hm) ?_)
    rw [push1]
    by_cases e:m=1
    ·rw [if_pos (by simpa using e)]
     exact wpS_pure ⟨rfl,.inl ⟨_,_,rfl,firstB m2 e⟩⟩
    ·rw [if_neg (by simpa using e)]
     have j2:Jh c la lb (lb[m] :: lo') (n + 1) m:=⟨m2,a0,a1',by omega,by omega⟩
     split
     ·exact wpS_pure ⟨rfl,.inr ⟨_,_,_,_,_,rfl,j2,by simp; omega⟩⟩
     ·exact wpS_pure ⟨rfl,_,_,_,_,_,rfl,j2,by simp; omega⟩
  ·rintro z st' ⟨rfl,lo',na,nb,ac,bc,rfl,j,hlen'⟩
   have:=j.mh.size j.a1 j.b1
   have:=j.a0
   have:=j.b0
   simp at hlen'
   omega
  ·rintro z st' ⟨rfl,⟨r,t,rfl,hr⟩ | ⟨lo',na,nb,ac,bc,rfl,j,hlen'⟩⟩
   ·exact wpS_pure ⟨⟨g,rfl⟩,_,_,rfl,hr⟩
   dsimp only
   refine wpS_bind (wpS_lift (wpAny_rule ⟨rfl,?_⟩))
   refine wpS_bind (wpS_mono (wpS_forRange (I:=fun x z st'=>(∃ g,st'=qax st g)/\∃ lo'' na nb mg ac bc,z=(none,na,nb,kvs kv lo''.reverse,mg,ac,bc)/\Jh c la lb lo'' na nb/\lo'.length + x≤lo''.length)
    (Q:=fun z st'=>(∃ g,st'=qax st g)/\((∃ r t,z=(some r,t)/\Fin' c kv la lb r)\/∃ lo'' na nb mg ac bc,z=(none,na,nb,kvs kv lo''.reverse,mg,ac,bc)/\Jh c la lb lo'' na nb/\lo'.length≤lo''.length)) ?_ ?_ ⟨⟨g,rfl⟩,_,_,_,_,_,_,rfl,j,by simp⟩) ?_)
   ·rintro x z st' _ hx ⟨⟨g',rfl⟩,lo2,na,nb,mg,ac,bc,rfl,j,hlen2⟩
    have a0:=j.a0
    have a1':=j.a1
    have b0:=j.b0
    have b1':=j.b1
    obtain ⟨m,rfl⟩:∃ m,nb=m + 1:=⟨nb - 1,by omega⟩
    have hm:m < lb.length:=by omega
    dsimp only
    simp only [Nat.add_sub_cancel]
    by_cases gg:mg > 1
    ·rw [if_pos gg]
     refine wpS_bind (wpS_modify ?_)
     refine wpS_bind (qac (qap hm) ?_)
     refine wpS_bind (qaw (st:=qax st (mg - 1)) (fun i=>!(c lb[m] (la.getD i 0))) (fun i j' hij hj q=>?_) (by omega) (fun i hi=>⟨kv (la.getD i 0),?_,fun Q' z _=>absurd z (by decide),fun Q' _ hQ=>gt _ (getD_mem (by omega)) _ (List.getElem_mem _) _ _ (by simpa using hQ)⟩) fun k hk hT hF=>?_)
     ·rw [qaa (show i < la.length by omega)]
      rw [qaa (show j' < la.length by omega)] at q
      have q':c lb[m] la[j']=false:=by simpa using q
      simpa using qeQ O sa (by omega) (by omega) (by omega) q'
     ·rw [Nat.zero_add,qap (show i < la.length by omega),qaa (show i < la.length by omega)]
     dsimp only
     have hlow:∀ y∈la.take k,c lb[m] y=false:=fun y hy=>by
      obtain ⟨i,hi,rfl⟩:=List.mem_iff_getElem.mp hy
      rw [List.length_take] at hi
      rw [List.getElem_take]
      have:=hT i (by omega)
      rw [qaa (show i < la.length by omega)] at this
      simpa using this
     have hhi:∀ p,k≤p->p < na->∀ q:p < la.length,c lb[m] la[p]=true:=fun p hp hp2 q=>by
      have:=hF p hp hp2
      rw [qaa q] at this
      simpa using this
     by_cases k0:na - k > 0
     ·have m2:=Mh.takeAs O sa sb (nb:=m + 1) (by omega) (by omega) (na - k) na j.mh (by omega) (by omega) fun p h1 h2 q=>hhi p (by omega) h2 q
      rw [show na - (na - k)=k by omega] at m2
      rw [if_pos k0,qch kv la k na,app1]
      by_cases e1:k=0
      ·rw [if_pos (by simpa using e1)]
       exact wpS_pure ⟨⟨_,rfl⟩,.inl ⟨_,_,rfl,endA m2 e1⟩⟩
      rw [if_neg (by simpa using e1)]
      obtain ⟨n3,rfl⟩:∃ n3,k=n3 + 1:=⟨k - 1,by omega⟩
      have hna:n3 < la.length:=by omega
      have m3:=m2.takeB O sb hm hlow
      refine wpS_bind (qac (qap hm) ?_)
      rw [push1]
      by_cases e3:m=1
      ·rw [if_pos (by simpa using e3)]
       exact wpS_pure ⟨⟨_,rfl⟩,.inl ⟨_,_,rfl,firstB m3 e3⟩⟩
      rw [if_neg (by simpa using e3)]
      simp only [Nat.add_sub_cancel]
      refine wpS_bind (qac (qap hna) ?_)
      refine wpS_bind (qaw (st:=qax st (mg - 1)) (fun i=>c (lb.getD i 0) la[n3]) (fun i j' hij hj q=>?_) (by omega) (fun i hi=>⟨kv (lb.getD i 0),?_,fun Q' _ hQ=>gt _ (List.getElem_mem _) _ (getD_mem (by omega)) _ _ hQ,fun Q' z _=>absurd z (by decide)⟩) fun k2 hk2 hT2 hF2=>?_)
      ·rw [qaa (show i < lb.length by omega)]
       rw [qaa (show j' < lb.length by omega)] at q
       exact qcl O sb (by omega) (by omega) (by omega) q
      ·rw [Nat.zero_add,qap (show i < lb.length by omega),qaa (show i < lb.length by omega)]
      dsimp only
      have low2:∀ p,p < k2->∀ q:p < lb.length,c lb[p] la[n3]=true:=fun p hp q=>by
       have:=hT2 p hp
       rwa [qaa q] at this
      have hi2:∀ p,k2≤p->p < m->∀ q:p < lb.length,c lb[p] la[n3]=false:=fun p hp hp2 q=>by
       have:=hF2 p hp hp2
       rwa [qaa q] at this
      have low3:∀ y∈lb.take k2,c la[n3] y=false:=fun y hy=>by
       obtain ⟨i,hi,rfl⟩:=List.mem_iff_getElem.mp hy
       rw [List.length_take] at hi
       rw [List.getElem_take]
       exact O.asym _ _ (low2 i (by omega) (by omega))
      by_cases k20:m - k2 > 0
      ·have m4:=Mh.takeBs O sa sb (na:=n3 + 1) (by omega) (by omega) (m - k2) m m3 (by omega) (by omega) fun p h1 h2 q=>hi2 p (by omega) h2 q
       rw [show m - (m - k2)=k2 by omega] at m4
       rw [if_pos k20,qch kv lb k2 m,app1]
       by_cases e4:k2=1
       ·rw [if_pos (by simpa using e4)]
        exact wpS_pure ⟨⟨_,rfl⟩,.inl ⟨_,_,rfl,firstB m4 e4⟩⟩
       rw [if_neg (by simpa using e4)]
       by_cases e6:k2=0
       ·rw [if_pos (by simpa using e6)]
        exact wpS_pure ⟨⟨_,rfl⟩,.inl ⟨_,_,rfl,endB m4 e6⟩⟩
       rw [if_neg (by simpa using e6)]
       have m5:=m4.takeA O sa hna low3
       refine wpS_bind (qac (qap hna) ?_)
       rw [push1]
       by_cases e5:n3=0
       ·rw [if_pos (by simpa using e5)]
        exact wpS_pure ⟨⟨_,rfl⟩,.inl ⟨_,_,rfl,endA m5 e5⟩⟩
       rw [if_neg (by simpa using e5)]
       split
       ·exact wpS_pure ⟨⟨_,rfl⟩,.inr ⟨_,_,_,_,_,_,rfl,⟨m5,by omega,by omega,by omega,by omega⟩,by simp; omega⟩⟩
       ·exact wpS_pure ⟨⟨_,rfl⟩,_,_,_,_,_,_,rfl,⟨m5,by omega,by omega,by omega,by omega⟩,by simp; omega⟩
      ·rw [if_neg k20]
       obtain rfl:m=k2:=by omega
       have m5:=m3.takeA O sa hna low3
       refine wpS_bind (qac (qap hna) ?_)
       rw [push1]
       by_cases e5:n3=0
       ·rw [if_pos (by simpa using e5)]
        exact wpS_pure ⟨⟨_,rfl⟩,.inl ⟨_,_,rfl,endA m5 e5⟩⟩
       rw [if_neg (by simpa using e5)]
       split
       ·exact wpS_pure ⟨⟨_,rfl⟩,.inr ⟨_,_,_,_,_,_,rfl,⟨m5,by omega,by omega,by omega,by omega⟩,by simp; omega⟩⟩
       ·exact wpS_pure ⟨⟨_,rfl⟩,_,_,_,_,_,_,rfl,⟨m5,by omega,by omega,by omega,by omega⟩,by simp; omega⟩
     ·rw [if_neg k0]
      obtain rfl:na=k:=by omega
      have m2:=j.mh
      obtain ⟨n3,rfl⟩:∃ n3,na=n3 + 1:=⟨na - 1,by omega⟩
      have hna:n3 < la.length:=by omega
      have m3:=m2.takeB O sb hm hlow
      refine wpS_bind (qac (qap hm) ?_)
      rw [push1]
      by_cases e3:m=1
      ·rw [if_pos (by simpa using e3)]
       exact wpS_pure ⟨⟨_,rfl⟩,.inl ⟨_,_,rfl,firstB m3 e3⟩⟩
      rw [if_neg (by simpa using e3)]
      simp only [Nat.add_sub_cancel]
      refine wpS_bind (qac (qap hna) ?_)
      refine wpS_bind (qaw (st:=qax st (mg - 1)) (fun i=>c (lb.getD i 0) la[n3]) (fun i j' hij hj q=>?_) (by omega) (fun i hi=>⟨kv (lb.getD i 0),?_,fun Q' _ hQ=>gt _ (List.getElem_mem _) _ (getD_mem (by omega)) _ _ hQ,fun Q' z _=>absurd z (by decide)⟩) fun k2 hk2 hT2 hF2=>?_)
      ·rw [qaa (show i < lb.length by omega)]
       rw [qaa (show j' < lb.length by omega)] at q
       exact qcl O sb (by omega) (by omega) (by omega) q
      ·rw [Nat.zero_add,qap (show i < lb.length by omega),qaa (show i < lb.length by omega)]
      dsimp only
      have low2:∀ p,p < k2->∀ q:p < lb.length,c lb[p] la[n3]=true:=fun p hp q=>by
       have:=hT2 p hp
       rwa [qaa q] at this
      have hi2:∀ p,k2≤p->p < m->∀ q:p < lb.length,c lb[p] la[n3]=false:=fun p hp hp2 q=>by
       have:=hF2 p hp hp2
       rwa [qaa q] at this
      have low3:∀ y∈lb.take k2,c la[n3] y=false:=fun y hy=>by
       obtain ⟨i,hi,rfl⟩:=List.mem_iff_getElem.mp hy
       rw [List.length_take] at hi
       rw [List.getElem_take]
       exact O.asym _ _ (low2 i (by omega) (by omega))
      by_cases k20:m - k2 > 0
      ·have m4:=Mh.takeBs O sa sb (na:=n3 + 1) (by omega) (by omega) (m - k2) m m3 (by omega) (by omega) fun p h1 h2 q=>hi2 p (by omega) h2 q
       rw [show m - (m - k2)=k2 by omega] at m4
       rw [if_pos k20,qch kv lb k2 m,app1]
       by_cases e4:k2=1
       ·rw [if_pos (by simpa using e4)]
        exact wpS_pure ⟨⟨_,rfl⟩,.inl ⟨_,_,rfl,firstB m4 e4⟩⟩
       rw [if_neg (by simpa using e4)]
       by_cases e6:k2=0
       ·rw [if_pos (by simpa using e6)]
        exact wpS_pure ⟨⟨_,rfl⟩,.inl ⟨_,_,rfl,endB m4 e6⟩⟩
       rw [if_neg (by simpa using e6)]
       have m5:=m4.takeA O sa hna low3
       refine wpS_bind (qac (qap hna) ?_)
       rw [push1]
       by_cases e5:n3=0
       ·rw [if_pos (by simpa using e5)]
        exact wpS_pure ⟨⟨_,rfl⟩,.inl ⟨_,_,rfl,endA m5 e5⟩⟩
       rw [if_neg (by simpa using e5)]
       split
       ·exact wpS_pure ⟨⟨_,rfl⟩,.inr ⟨_,_,_,_,_,_,rfl,⟨m5,by omega,by omega,by omega,by omega⟩,by simp; omega⟩⟩
       ·exact wpS_pure ⟨⟨_,rfl⟩,_,_,_,_,_,_,rfl,⟨m5,by omega,by omega,by omega,by omega⟩,by simp; omega⟩
      ·rw [if_neg k20]
       obtain rfl:m=k2:=by omega
       have m5:=m3.takeA O sa hna low3
       refine wpS_bind (qac (qap hna) ?_)
       rw [push1]
       by_cases e5:n3=0
       ·rw [if_pos (by simpa using e5)]
        exact wpS_pure ⟨⟨_,rfl⟩,.inl ⟨_,_,rfl,endA m5 e5⟩⟩
       rw [if_neg (by simpa using e5)]
       split
       ·exact wpS_pure ⟨⟨_,rfl⟩,.inr ⟨_,_,_,_,_,_,rfl,⟨m5,by omega,by omega,by omega,by omega⟩,by simp; omega⟩⟩
       ·exact wpS_pure ⟨⟨_,rfl⟩,_,_,_,_,_,_,rfl,⟨m5,by omega,by omega,by omega,by omega⟩,by simp; omega⟩
    ·rw [if_neg gg]
     refine wpS_bind (wpS_modify ?_)
     refine wpS_bind (qac (qap hm) ?_)
     refine wpS_bind (qaw (st:=qax st (mg)) (fun i=>!(c lb[m] (la.getD i 0))) (fun i j' hij hj q=>?_) (by omega) (fun i hi=>⟨kv (la.getD i 0),?_,fun Q' z _=>absurd z (by decide),fun Q' _ hQ=>gt _ (getD_mem (by omega)) _ (List.getElem_mem _) _ _ (by simpa using hQ)⟩) fun k hk hT hF=>?_)
     ·rw [qaa (show i < la.length by omega)]
      rw [qaa (show j' < la.length by omega)] at q
      have q':c lb[m] la[j']=false:=by simpa using q
      simpa using qeQ O sa (by omega) (by omega) (by omega) q'
     ·rw [Nat.zero_add,qap (show i < la.length by omega),qaa (show i < la.length by omega)]
     dsimp only
     have hlow:∀ y∈la.take k,c lb[m] y=false:=fun y hy=>by
      obtain ⟨i,hi,rfl⟩:=List.mem_iff_getElem.mp hy
      rw [List.length_take] at hi
      rw [List.getElem_take]
      have:=hT i (by omega)
      rw [qaa (show i < la.length by omega)] at this
      simpa using this
     have hhi:∀ p,k≤p->p < na->∀ q:p < la.length,c lb[m] la[p]=true:=fun p hp hp2 q=>by
      have:=hF p hp hp2
      rw [qaa q] at this
      simpa using this
     by_cases k0:na - k > 0
     ·have m2:=Mh.takeAs O sa sb (nb:=m + 1) (by omega) (by omega) (na - k) na j.mh (by omega) (by omega) fun p h1 h2 q=>hhi p (by omega) h2 q
      rw [show na - (na - k)=k by omega] at m2
      rw [if_pos k0,qch kv la k na,app1]
      by_cases e1:k=0
      ·rw [if_pos (by simpa using e1)]
       exact wpS_pure ⟨⟨_,rfl⟩,.inl ⟨_,_,rfl,endA m2 e1⟩⟩
      rw [if_neg (by simpa using e1)]
      obtain ⟨n3,rfl⟩:∃ n3,k=n3 + 1:=⟨k - 1,by omega⟩
      have hna:n3 < la.length:=by omega
      have m3:=m2.takeB O sb hm hlow
      refine wpS_bind (qac (qap hm) ?_)
      rw [push1]
      by_cases e3:m=1
      ·rw [if_pos (by simpa using e3)]
       exact wpS_pure ⟨⟨_,rfl⟩,.inl ⟨_,_,rfl,firstB m3 e3⟩⟩
      rw [if_neg (by simpa using e3)]
      simp only [Nat.add_sub_cancel]
      refine wpS_bind (qac (qap hna) ?_)
      refine wpS_bind (qaw (st:=qax st (mg)) (fun i=>c (lb.getD i 0) la[n3]) (fun i j' hij hj q=>?_) (by omega) (fun i hi=>⟨kv (lb.getD i 0),?_,fun Q' _ hQ=>gt _ (List.getElem_mem _) _ (getD_mem (by omega)) _ _ hQ,fun Q' z _=>absurd z (by decide)⟩) fun k2 hk2 hT2 hF2=>?_)
      ·rw [qaa (show i < lb.length by omega)]
       rw [qaa (show j' < lb.length by omega)] at q
       exact qcl O sb (by omega) (by omega) (by omega) q
      ·rw [Nat.zero_add,qap (show i < lb.length by omega),qaa (show i < lb.length by omega)]
      dsimp only
      have low2:∀ p,p < k2->∀ q:p < lb.length,c lb[p] la[n3]=true:=fun p hp q=>by
       have:=hT2 p hp
       rwa [qaa q] at this
      have hi2:∀ p,k2≤p->p < m->∀ q:p < lb.length,c lb[p] la[n3]=false:=fun p hp hp2 q=>by
       have:=hF2 p hp hp2
       rwa [qaa q] at this
      have low3:∀ y∈lb.take k2,c la[n3] y=false:=fun y hy=>by
       obtain ⟨i,hi,rfl⟩:=List.mem_iff_getElem.mp hy
       rw [List.length_take] at hi
       rw [List.getElem_take]
       exact O.asym _ _ (low2 i (by omega) (by omega))
      by_cases k20:m - k2 > 0
      ·have m4:=Mh.takeBs O sa sb (na:=n3 + 1) (by omega) (by omega) (m - k2) m m3 (by omega) (by omega) fun p h1 h2 q=>hi2 p (by omega) h2 q
       rw [show m - (m - k2)=k2 by omega] at m4
       rw [if_pos k20,qch kv lb k2 m,app1]
       by_cases e4:k2=1
       ·rw [if_pos (by simpa using e4)]
        exact wpS_pure ⟨⟨_,rfl⟩,.inl ⟨_,_,rfl,firstB m4 e4⟩⟩
       rw [if_neg (by simpa using e4)]
       by_cases e6:k2=0
       ·rw [if_pos (by simpa using e6)]
        exact wpS_pure ⟨⟨_,rfl⟩,.inl ⟨_,_,rfl,endB m4 e6⟩⟩
       rw [if_neg (by simpa using e6)]
       have m5:=m4.takeA O sa hna low3
       refine wpS_bind (qac (qap hna) ?_)
       rw [push1]
       by_cases e5:n3=0
       ·rw [if_pos (by simpa using e5)]
        exact wpS_pure ⟨⟨_,rfl⟩,.inl ⟨_,_,rfl,endA m5 e5⟩⟩
       rw [if_neg (by simpa using e5)]
       split
       ·exact wpS_pure ⟨⟨_,rfl⟩,.inr ⟨_,_,_,_,_,_,rfl,⟨m5,by omega,by omega,by omega,by omega⟩,by simp; omega⟩⟩
       ·exact wpS_pure ⟨⟨_,rfl⟩,_,_,_,_,_,_,rfl,⟨m5,by omega,by omega,by omega,by omega⟩,by simp; omega⟩
      ·rw [if_neg k20]
       obtain rfl:m=k2:=by omega
       have m5:=m3.takeA O sa hna low3
       refine wpS_bind (qac (qap hna) ?_)
       rw [push1]
       by_cases e5:n3=0
       ·rw [if_pos (by simpa using e5)]
        exact wpS_pure ⟨⟨_,rfl⟩,.inl ⟨_,_,rfl,endA m5 e5⟩⟩
       rw [if_neg (by simpa using e5)]
       split
       ·exact wpS_pure ⟨⟨_,rfl⟩,.inr ⟨_,_,_,_,_,_,rfl,⟨m5,by omega,by omega,by omega,by omega⟩,by simp; omega⟩⟩
       ·exact wpS_pure ⟨⟨_,rfl⟩,_,_,_,_,_,_,rfl,⟨m5,by omega,by omega,by omega,by omega⟩,by simp; omega⟩
     ·rw [if_neg k0]
      obtain rfl:na=k:=by omega
      have m2:=j.mh
      obtain ⟨n3,rfl⟩:∃ n3,na=n3 + 1:=⟨na - 1,by omega⟩
      have hna:n3 < la.length:=by omega
      have m3:=m2.takeB O sb hm hlow
      refine wpS_bind (qac (qap hm) ?_)
      rw [push1]
      by_cases e3:m=1
      ·rw [if_pos (by simpa using e3)]
       exact wpS_pure ⟨⟨_,rfl⟩,.inl ⟨_,_,rfl,firstB m3 e3⟩⟩
      rw [if_neg (by simpa using e3)]
      simp only [Nat.add_sub_cancel]
      refine wpS_bind (qac (qap hna) ?_)
      refine wpS_bind (qaw (st:=qax st (mg)) (fun i=>c (lb.getD i 0) la[n3]) (fun i j' hij hj q=>?_) (by omega) (fun i hi=>⟨kv (lb.getD i 0),?_,fun Q' _ hQ=>gt _ (List.getElem_mem _) _ (getD_mem (by omega)) _ _ hQ,fun Q' z _=>absurd z (by decide)⟩) fun k2 hk2 hT2 hF2=>?_)
      ·rw [qaa (show i < lb.length by omega)]
       rw [qaa (show j' < lb.length by omega)] at q
       exact qcl O sb (by omega) (by omega) (by omega) q
      ·rw [Nat.zero_add,qap (show i < lb.length by omega),qaa (show i < lb.length by omega)]
      dsimp only
      have low2:∀ p,p < k2->∀ q:p < lb.length,c lb[p] la[n3]=true:=fun p hp q=>by
       have:=hT2 p hp
       rwa [qaa q] at this
      have hi2:∀ p,k2≤p->p < m->∀ q:p < lb.length,c lb[p] la[n3]=false:=fun p hp hp2 q=>by
       have:=hF2 p hp hp2
       rwa [qaa q] at this
      have low3:∀ y∈lb.take k2,c la[n3] y=false:=fun y hy=>by
       obtain ⟨i,hi,rfl⟩:=List.mem_iff_getElem.mp hy
       rw [List.length_take] at hi
       rw [List.getElem_take]
       exact O.asym _ _ (low2 i (by omega) (by omega))
      by_cases k20:m - k2 > 0
      ·have m4:=Mh.takeBs O sa sb (na:=n3 + 1) (by omega) (by omega) (m - k2) m m3 (by omega) (by omega) fun p h1 h2 q=>hi2 p (by omega) h2 q
       rw [show m - (m - k2)=k2 by omega] at m4
       rw [if_pos k20,qch kv lb k2 m,app1]
       by_cases e4:k2=1
       ·rw [if_pos (by simpa using e4)]
        exact wpS_pure ⟨⟨_,rfl⟩,.inl ⟨_,_,rfl,firstB m4 e4⟩⟩
       rw [if_neg (by simpa using e4)]
       by_cases e6:k2=0
       ·rw [if_pos (by simpa using e6)]
        exact wpS_pure ⟨⟨_,rfl⟩,.inl ⟨_,_,rfl,endB m4 e6⟩⟩
       rw [if_neg (by simpa using e6)]
       have m5:=m4.takeA O sa hna low3
       refine wpS_bind (qac (qap hna) ?_)
       rw [push1]
       by_cases e5:n3=0
       ·rw [if_pos (by simpa using e5)]
        exact wpS_pure ⟨⟨_,rfl⟩,.inl ⟨_,_,rfl,endA m5 e5⟩⟩
       rw [if_neg (by simpa using e5)]
       split
       ·exact wpS_pure ⟨⟨_,rfl⟩,.inr ⟨_,_,_,_,_,_,rfl,⟨m5,by omega,by omega,by omega,by omega⟩,by simp; omega⟩⟩
       ·exact wpS_pure ⟨⟨_,rfl⟩,_,_,_,_,_,_,rfl,⟨m5,by omega,by omega,by omega,by omega⟩,by simp; omega⟩
      ·rw [if_neg k20]
       obtain rfl:m=k2:=by omega
       have m5:=m3.takeA O sa hna low3
       refine wpS_bind (qac (qap hna) ?_)
       rw [push1]
       by_cases e5:n3=0
       ·rw [if_pos (by simpa using e5)]
        exact wpS_pure ⟨⟨_,rfl⟩,.inl ⟨_,_,rfl,endA m5 e5⟩⟩
       rw [if_neg (by simpa using e5)]
       split
       ·exact wpS_pure ⟨⟨_,rfl⟩,.inr ⟨_,_,_,_,_,_,rfl,⟨m5,by omega,by omega,by omega,by omega⟩,by simp; omega⟩⟩
       ·exact wpS_pure ⟨⟨_,rfl⟩,_,_,_,_,_,_,rfl,⟨m5,by omega,by omega,by omega,by omega⟩,by simp; omega⟩
   ·rintro z st' ⟨⟨g',rfl⟩,lo2,na,nb,mg,ac,bc,rfl,j,hlen2⟩
    have:=j.mh.size j.a1 j.b1
    have:=j.a0
    have:=j.b0
    simp at hlen2
    omega
   ·rintro z st' ⟨⟨g',rfl⟩,⟨r,t,rfl,hr⟩ | ⟨lo2,na,nb,mg,ac,bc,rfl,j,hlen2⟩⟩
    ·exact wpS_pure ⟨⟨g',rfl⟩,_,_,rfl,hr⟩
    dsimp only
    refine wpS_bind (wpS_modify ?_)
    exact wpS_pure ⟨⟨_,rfl⟩,_,_,_,_,rfl,j,by omega⟩
 ·rintro z st' ⟨⟨g,rfl⟩,lo,na,nb,mg,rfl,j,hlen⟩
  have:=j.mh.size j.a1 j.b1
  have:=j.a0
  have:=j.b0
  simp at hlen
  omega
 ·rintro z st' ⟨⟨g,rfl⟩,r,t,rfl,hr⟩
  exact wpS_pure (h r g hr)
end
abbrev Rn:=List Nat × Nat
def flat (R:List Rn):List Nat:=(R.map (·.1)).flatten
def pend:Nat->List Rn->List (Nat × Nat × Nat)
 | _,[]=>[]
 | t,(l,w) :: r=>(t,l.length,w) :: pend (t + l.length) r
theorem qa3:∀ (t:Nat) (R S:List Rn),pend t (R ++ S)=pend t R ++ pend (t + (flat R).length) S
 | t,[],S=>by simp [pend,flat]
 | t,(l,w) :: R,S=>by
  show (t,l.length,w) :: pend (t + l.length) (R ++ S)=_
  rw [qa3 (t + l.length) R S]
  show _=(t,l.length,w) :: (pend (t + l.length) R ++ pend (t + (flat ((l,w) :: R)).length) S)
  have:(flat ((l,w) :: R)).length=l.length + (flat R).length:=by simp [flat]
  rw [this,Nat.add_assoc]
theorem qa2:∀ (t:Nat) (R:List Rn),(pend t R).length=R.length
 | _,[]=>rfl
 | t,(l,w) :: R=>by show (pend (t + l.length) R).length + 1=_; rw [qa2]; rfl
theorem qfS (kv:Nat->Keyed):∀ (l:List Nat) (pre old post:List Nat) (j:Nat),l.length=old.length->(((l.map kv).zipIdx j).foldl (fun a (x:Keyed × Nat)=>a.setIfInBounds (pre.length + x.2 - j) x.1) (kvs kv (pre ++ old ++ post)))=kvs kv (pre ++ l ++ post)
 | [],pre,old,post,j,h=>by
  have:old=[]:=List.length_eq_zero_iff.mp h.symm
  subst this; rfl
 | x :: l,pre,old,post,j,h=>by
  obtain ⟨o,old',rfl⟩:∃ o old',old=o :: old':=by
   cases old with
   | nil=>simp at h
   | cons o old'=>exact ⟨o,old',rfl⟩
  have ih:=qfS kv l (pre ++ [x]) old' post (j + 1) (by simpa using h)
  rw [List.map_cons,List.zipIdx_cons,List.foldl_cons]
  have e1:(kvs kv (pre ++ o :: old' ++ post)).setIfInBounds (pre.length + j - j) (kv x)=kvs kv (pre ++ [x] ++ old' ++ post):=by
   apply Array.toList_inj.mp
   rw [Nat.add_sub_cancel]
   simp [List.set_append]
  show List.foldl _ ((kvs kv (pre ++ o :: old' ++ post)).setIfInBounds (pre.length + j - j) (kv x)) _=_
  rw [e1]
  rw [show pre ++ x :: l ++ post=pre ++ [x] ++ l ++ post by simp]
  rw [<- ih]
  congr 1
  funext a y
  congr 1
  simp
  omega
section
variable {prog:Program}{w:World}{A:Around}{E:Value->Shared->Prop}{s:Shared}
theorem qju {σ:Type}{M:Model}{x st:σ}{Q:PUnit->σ->Prop}(h:Q ⟨⟩ x):wpS M A E s (set x:StateT σ Sem PUnit) Q st:=by
 unfold wpS; rw [StateT.run_set]; exact wpAny_pure ⟨rfl,h⟩
abbrev SS (κ:SortKind)(a:Array Keyed)(p:Array (Nat × Nat × Nat))(g:Nat):SortSt:=SortSt.mk' κ a p g none
structure Cmp (prog:Program)(w:World)(A:Around)(E:Value->Shared->Prop)(s:Shared)(c:Nat->Nat->Bool)(kv:Nat->Keyed)(κ:SortKind)(n:Nat):Prop where
 O:Ord c
 lt:∀ x y,In n x y->∀ (st:SortSt),kindOf st=κ->∀ Q:Option Bool->SortSt->Prop,Q (some (c x y)) st->wpS (model prog w) A E s (lt' (kv x) (kv y)) Q st
theorem qcT {c:Nat->Nat->Bool}{kv:Nat->Keyed}{κ:SortKind}{n:Nat}(C:Cmp prog w A E s c kv κ n){R1 R2:List Rn}{la lb rest:List Nat}{w1 w2 g:Nat}{Q:Bool->SortSt->Prop}
  (pm:(flat R1 ++ la ++ lb ++ flat R2 ++ rest).Perm (List.range n)) (sa:Asc c la) (sb:Asc c lb) (a1:1≤la.length) (b1:1≤lb.length)
  (h:∀ (l:List Nat) (g':Nat),l.Perm (la ++ lb)->Asc c l->Q true (SS κ (kvs kv (flat R1 ++ l ++ flat R2 ++ rest)) (pend 0 (R1 ++ (l,w1) :: R2)).toArray g')) :
  wpS (model prog w) A E s (mergeAt' R1.length) Q (SS κ (kvs kv (flat R1 ++ la ++ lb ++ flat R2 ++ rest)) (pend 0 (R1 ++ (la,w1) :: (lb,w2) :: R2)).toArray g):=by
 have nd:(flat R1 ++ la ++ lb ++ flat R2 ++ rest).Nodup:=pm.nodup_iff.mpr List.nodup_range
 have ltn:∀ x∈la ++ lb,x < n:=fun x hx=>List.mem_range.mp (pm.mem_iff.mp (by
  simp only [List.mem_append] at hx ⊢
  rcases hx with q | q
  ·exact .inl (.inl (.inl (.inr q)))
  ·exact .inl (.inl (.inr q))))
 have dis:∀ x∈la,∀ y∈lb,x≠y:=fun x hx y hy e=>by
  have n2:(la ++ lb).Nodup:=by
   refine nd.sublist ?_
   have:(flat R1 ++ la ++ lb ++ flat R2 ++ rest)=flat R1 ++ ((la ++ lb) ++ (flat R2 ++ rest)):=by simp
   rw [this]
   exact (List.sublist_append_left _ _).trans (List.sublist_append_right _ _)
  subst e
  exact (List.nodup_append.mp n2).2.2 x hx x hy rfl
 have p1:(pend 0 (R1 ++ (la,w1) :: (lb,w2) :: R2)).toArray[R1.length]?=some ((flat R1).length,la.length,w1):=by
  rw [List.getElem?_toArray,qa3,List.getElem?_append_right (by rw [qa2]; exact Nat.le_refl _),qa2,Nat.sub_self]
  simp [pend]
 have p2:(pend 0 (R1 ++ (la,w1) :: (lb,w2) :: R2)).toArray[R1.length + 1]?=some ((flat R1).length + la.length,lb.length,w2):=by
  rw [List.getElem?_toArray,qa3,List.getElem?_append_right (by rw [qa2]; omega),qa2,Nat.add_sub_cancel_left]
  simp [pend]
 have pe:∀ l:List Nat,l.length=la.length + lb.length->(((pend 0 (R1 ++ (la,w1) :: (lb,w2) :: R2)).toArray.setIfInBounds R1.length ((flat R1).length,la.length + lb.length,w1)).eraseIdxIfInBounds (R1.length + 1))=(pend 0 (R1 ++ (l,w1) :: R2)).toArray:=by
  intro l hl
  apply Array.toList_inj.mp
  rw [qa3,qa3]
  have e:pend (0 + (flat R1).length) ((la,w1) :: (lb,w2) :: R2)=((flat R1).length,la.length,w1) :: ((flat R1).length + la.length,lb.length,w2) :: pend ((flat R1).length + la.length + lb.length) R2:=by simp [pend]
  have e':pend (0 + (flat R1).length) ((l,w1) :: R2)=((flat R1).length,la.length + lb.length,w1) :: pend ((flat R1).length + la.length + lb.length) R2:=by simp [pend,hl,Nat.add_assoc]
  rw [e,e',Array.eraseIdxIfInBounds]
  have sz:R1.length + 1 < (((pend 0 R1 ++ ((flat R1).length,la.length,w1) :: ((flat R1).length + la.length,lb.length,w2) :: pend ((flat R1).length + la.length + lb.length) R2).toArray.setIfInBounds R1.length ((flat R1).length,la.length + lb.length,w1))).size:=by simp [qa2]
  rw [dif_pos sz,Array.toList_eraseIdx,Array.toList_setIfInBounds]
  have q:=qa2 0 R1
  rw [<- q]
  simp [List.set_append,List.eraseIdx_append_of_length_le]
 have atA:∀ {i:Nat} (hi:i < la.length),(kvs kv (flat R1 ++ la ++ lb ++ flat R2 ++ rest))[(flat R1).length + i]?=some (kv la[i]):=fun {i} hi=>by
  rw [qap (by simp; omega)]
  congr 2
  simp [List.getElem_append,hi]
 have atB:∀ {i:Nat} (hi:i < lb.length),(kvs kv (flat R1 ++ la ++ lb ++ flat R2 ++ rest))[(flat R1).length + la.length + i]?=some (kv lb[i]):=fun {i} hi=>by
  rw [qap (by simp; omega)]
  congr 2
  simp [List.getElem_append,hi,Nat.add_assoc]
 have inAB:∀ x∈la,∀ y∈lb,In n y x:=fun x hx y hy=>⟨ltn y (by simp [hy]),ltn x (by simp [hx]),fun e=>dis x hx y hy e.symm⟩
 have O:=C.O
 refine wpS_bind (wpS_get ?_)
 dsimp only
 rw [p1,p2]
 dsimp only
 refine wpS_bind (qju ?_)
 rw [pe (la ++ lb) (by simp)]
 refine wpS_bind (qac (x:=kv lb[0]) (by have:=atB (i:=0) b1; simpa using this) ?_)
 refine wpS_bind (qaw (fun i=>!(c lb[0] (la.getD i 0))) (fun i j' hij hj q=>?_) (by omega) (fun i hi=>⟨kv (la.getD i 0),?_,fun Q' z _=>absurd z (by decide),fun Q' _ hQ=>C.lt _ _ (inAB _ (getD_mem hi) _ (List.getElem_mem _)) _ rfl _ (by simpa using hQ)⟩) fun k hk hT hF=>?_)
 ·rw [qaa (show i < la.length by omega)]
  rw [qaa hj] at q
  have q':c lb[0] la[j']=false:=by simpa using q
  simpa using qeQ O sa (by omega) (by omega) (by omega) q'
 ·rw [atA hi,qaa hi]
 dsimp only
 have low:∀ x∈la.take k,c lb[0] x=false:=fun x hx=>by
  obtain ⟨i,hi,rfl⟩:=List.mem_iff_getElem.mp hx
  rw [List.length_take] at hi
  rw [List.getElem_take]
  have:=hT i (by omega)
  rw [qaa (show i < la.length by omega)] at this
  simpa using this
 have high:∀ x∈la.drop k,c x lb[0]=false:=fun x hx=>by
  obtain ⟨i,hi,rfl⟩:=List.mem_iff_getElem.mp hx
  rw [List.length_drop] at hi
  rw [List.getElem_drop]
  have:=hF (k + i) (by omega) (by omega)
  rw [qaa (show k + i < la.length by omega)] at this
  exact O.asym _ _ (by simpa using this)
 have geB:∀ y∈lb,c y lb[0]=false:=fun y hy=>by
  obtain ⟨i,hi,rfl⟩:=List.mem_iff_getElem.mp hy
  exact qb3 O sb (Nat.zero_le _) hi
 have lastA:∀ x∈la,c la[la.length - 1] x=false:=fun x hx=>by
  obtain ⟨i,hi,rfl⟩:=List.mem_iff_getElem.mp hx
  exact qb3 O sa (by omega) (by omega)
 by_cases k1:la.length - k=0
 ·rw [if_pos (by simpa using k1)]
  have ek:la.take k=la:=List.take_of_length_le (by omega)
  rw [ek] at low
  have:=h (la ++ lb) g (List.Perm.refl _) (List.pairwise_append.mpr ⟨sa,sb,fun x hx y hy=>O.tr _ _ _ (low x hx) (geB y hy)⟩)
  rw [<- List.append_assoc] at this
  exact wpS_pure this
 rw [if_neg (by simpa using k1)]
 have e3:(flat R1).length + k + (la.length - k) - 1=(flat R1).length + (la.length - 1):=by omega
 rw [e3]
 refine wpS_bind (qac (atA (show la.length - 1 < la.length by omega)) ?_)
 refine wpS_bind (qaw (fun i=>c (lb.getD i 0) la[la.length - 1]) (fun i j' hij hj q=>?_) (by omega) (fun i hi=>⟨kv (lb.getD i 0),?_,fun Q' _ hQ=>C.lt _ _ (inAB _ (List.getElem_mem _) _ (getD_mem hi)) _ rfl _ hQ,fun Q' z _=>absurd z (by decide)⟩) fun m hm hT2 hF2=>?_)
 ·rw [qaa (show i < lb.length by omega)]
  rw [qaa hj] at q
  exact qcl O sb (by omega) (by omega) (by omega) q
 ·rw [atB hi,qaa hi]
 dsimp only
 have lowB:∀ y∈lb.take m,c la[la.length - 1] y=false:=fun y hy=>by
  obtain ⟨i,hi,rfl⟩:=List.mem_iff_getElem.mp hy
  rw [List.length_take] at hi
  rw [List.getElem_take]
  have:=hT2 i (by omega)
  rw [qaa (show i < lb.length by omega)] at this
  exact O.asym _ _ this
 have highB:∀ y∈lb.drop m,c y la[la.length - 1]=false:=fun y hy=>by
  obtain ⟨i,hi,rfl⟩:=List.mem_iff_getElem.mp hy
  rw [List.length_drop] at hi
  rw [List.getElem_drop]
  have:=hF2 (m + i) (by omega) (by omega)
  rwa [qaa (show m + i < lb.length by omega)] at this
 by_cases m1:m=0
 ·rw [if_pos (by simpa using m1)]
  subst m1
  have:=h (la ++ lb) g (List.Perm.refl _) (List.pairwise_append.mpr ⟨sa,sb,fun x hx y hy=>O.tr _ _ _ (lastA x hx) (highB y (by simpa using hy))⟩)
  rw [<- List.append_assoc] at this
  exact wpS_pure this
 rw [if_neg (by simpa using m1)]
 have exA:(kvs kv (flat R1 ++ la ++ lb ++ flat R2 ++ rest)).extract ((flat R1).length + k) ((flat R1).length + la.length)=kvs kv (la.drop k):=by
  have e:flat R1 ++ la ++ lb ++ flat R2 ++ rest=(flat R1 ++ la) ++ (lb ++ flat R2 ++ rest):=by simp
  have e2:((flat R1 ++ la ++ lb ++ flat R2 ++ rest).take ((flat R1).length + la.length)).drop ((flat R1).length + k)=la.drop k:=by
   rw [e,List.take_left' (by simp),List.drop_append,List.drop_of_length_le (by omega),List.nil_append,Nat.add_sub_cancel_left]
  rw [qch,e2]
 have exB:(kvs kv (flat R1 ++ la ++ lb ++ flat R2 ++ rest)).extract ((flat R1).length + la.length) ((flat R1).length + la.length + m)=kvs kv (lb.take m):=by
  have e:flat R1 ++ la ++ lb ++ flat R2 ++ rest=(flat R1 ++ la) ++ (lb ++ (flat R2 ++ rest)):=by simp
  have ln:(flat R1 ++ la).length=(flat R1).length + la.length:=by simp
  have e2:((flat R1 ++ la ++ lb ++ flat R2 ++ rest).take ((flat R1).length + la.length + m)).drop ((flat R1).length + la.length)=lb.take m:=by
   rw [e,List.take_append,List.take_of_length_le (by omega),ln,Nat.add_sub_cancel_left,List.take_append_of_le_length hm,List.drop_left' ln]
  rw [qch,e2]
 have fin:∀ (r:Array Keyed) (g':Nat),Fin' c kv (la.drop k) (lb.take m) r->Q true (SS κ (List.foldl (fun (a:Array Keyed) (x:Keyed × Nat)=>a.setIfInBounds ((flat R1).length + k + x.2) x.1) (kvs kv (flat R1 ++ la ++ lb ++ flat R2 ++ rest)) r.toList.zipIdx) (pend 0 (R1 ++ (la ++ lb,w1) :: R2)).toArray g'):=by
  rintro r g' ⟨l,rfl,pl,sl⟩
  have hl:l.length=(la.drop k ++ lb.take m).length:=pl.length_eq
  have e1:flat R1 ++ la ++ lb ++ flat R2 ++ rest=(flat R1 ++ la.take k) ++ (la.drop k ++ lb.take m) ++ (lb.drop m ++ flat R2 ++ rest):=by
   have h1:=List.take_append_drop k la
   have h2:=List.take_append_drop m lb
   calc _=flat R1 ++ (la.take k ++ la.drop k) ++ (lb.take m ++ lb.drop m) ++ flat R2 ++ rest:=by rw [h1,h2]
    _=_:=by simp only [List.append_assoc]
  have pl2:(la.take k ++ l ++ lb.drop m).Perm (la ++ lb):=by
   refine List.Perm.trans (List.Perm.append_right _ (List.Perm.append_left _ pl)) ?_
   have h1:=List.take_append_drop k la
   have h2:=List.take_append_drop m lb
   have:la.take k ++ (la.drop k ++ lb.take m) ++ lb.drop m=la ++ lb:=by
    calc _=(la.take k ++ la.drop k) ++ (lb.take m ++ lb.drop m):=by simp only [List.append_assoc]
     _=_:=by rw [h1,h2]
   rw [this]
  have as:Asc c (la.take k ++ l ++ lb.drop m):=by
   have tdA:Asc c (la.take k ++ la.drop k):=by rw [List.take_append_drop]; exact sa
   have tdB:Asc c (lb.take m ++ lb.drop m):=by rw [List.take_append_drop]; exact sb
   have xa:=(List.pairwise_append.mp tdA).2.2
   have xb:=(List.pairwise_append.mp tdB).2.2
   refine List.pairwise_append.mpr ⟨List.pairwise_append.mpr ⟨sa.sublist (List.take_sublist _ _),sl,fun x hx y hy=>?_⟩,sb.sublist (List.drop_sublist _ _),fun x hx y hy=>?_⟩
   ·rcases List.mem_append.mp (pl.mem_iff.mp hy) with q | q
    ·exact xa x hx y q
    ·exact O.tr _ _ _ (low x hx) (geB y (List.mem_of_mem_take q))
   ·rcases List.mem_append.mp hx with q | q
    ·exact O.tr _ _ _ (lastA x (List.mem_of_mem_take q)) (highB y hy)
    ·rcases List.mem_append.mp (pl.mem_iff.mp q) with q | q
     ·exact O.tr _ _ _ (lastA x (List.mem_of_mem_drop q)) (highB y hy)
     ·exact xb x q y hy
  have:=h _ g' pl2 as
  have e2:pend 0 (R1 ++ (la ++ lb,w1) :: R2)=pend 0 (R1 ++ (la.take k ++ l ++ lb.drop m,w1) :: R2):=by
   have hn:=pl2.length_eq
   rw [qa3,qa3]
   congr 1
   show (_,(la ++ lb).length,w1) :: pend (_ + (la ++ lb).length) R2=(_,(la.take k ++ l ++ lb.drop m).length,w1) :: pend (_ + (la.take k ++ l ++ lb.drop m).length) R2
   rw [hn]
  have e4:List.foldl (fun (a:Array Keyed) (x:Keyed × Nat)=>a.setIfInBounds ((flat R1).length + k + x.2) x.1) (kvs kv (flat R1 ++ la ++ lb ++ flat R2 ++ rest)) (kvs kv l).toList.zipIdx=kvs kv (flat R1 ++ (la.take k ++ l ++ lb.drop m) ++ flat R2 ++ rest):=by
   have f:=qfS kv l (flat R1 ++ la.take k) (la.drop k ++ lb.take m) (lb.drop m ++ flat R2 ++ rest) 0 hl
   rw [<- e1] at f
   have e5:flat R1 ++ la.take k ++ l ++ (lb.drop m ++ flat R2 ++ rest)=flat R1 ++ (la.take k ++ l ++ lb.drop m) ++ flat R2 ++ rest:=by simp only [List.append_assoc]
   rw [e5] at f
   rw [<- f]
   show List.foldl _ _ ((l.map kv).zipIdx 0)=_
   congr 1
   funext a x
   congr 1
   simp
   omega
  rw [e4,e2]
  exact this
 have saD:Asc c (la.drop k):=sa.sublist (List.drop_sublist _ _)
 have sbT:Asc c (lb.take m):=sb.sublist (List.take_sublist _ _)
 have ld:1≤(la.drop k).length:=by rw [List.length_drop]; omega
 have lt:1≤(lb.take m).length:=by rw [List.length_take]; omega
 have lastD:(la.drop k)[(la.drop k).length - 1]=la[la.length - 1]:=by
  rw [List.getElem_drop]
  congr 1
  rw [List.length_drop]; omega
 have firstT:(lb.take m)[0]=lb[0]:=by rw [List.getElem_take]
 have gtD:∀ x∈la.drop k,∀ y∈lb.take m,∀ (g2:Nat) (Q':Option Bool->SortSt->Prop),Q' (some (c y x)) (qax (SS κ (kvs kv (flat R1 ++ la ++ lb ++ flat R2 ++ rest)) (pend 0 (R1 ++ (la ++ lb,w1) :: R2)).toArray g) g2)->wpS (model prog w) A E s (lt' (kv y) (kv x)) Q' (qax (SS κ (kvs kv (flat R1 ++ la ++ lb ++ flat R2 ++ rest)) (pend 0 (R1 ++ (la ++ lb,w1) :: R2)).toArray g) g2):=fun x hx y hy g2 Q' hQ=>C.lt _ _ (inAB _ (List.mem_of_mem_drop hx) _ (List.mem_of_mem_take hy)) _ rfl _ hQ
 rw [exA,exB]
 split
 ·refine wpS_bind (qeS O saD sbT ld lt (fun x hx y hy g2 Q' hQ=>C.lt _ _ (by obtain ⟨a,b,d⟩:=inAB _ (List.mem_of_mem_drop hx) _ (List.mem_of_mem_take hy); exact ⟨b,a,fun e=>d e.symm⟩) _ rfl _ hQ) gtD (fun y hy=>by rw [lastD]; exact lowB y hy) (fun y hy=>by rw [firstT]; exact high y hy) fun r g2 hr=>?_)
  refine wpS_bind (wpS_modify (wpS_bind (wpS_get (wpS_pure ?_))))
  exact fin r g2 hr
 ·refine wpS_bind (qeT O saD sbT ld lt gtD (fun y hy=>by rw [lastD]; exact lowB y hy) (fun y hy=>by rw [firstT]; exact high y hy) fun r g2 hr=>?_)
  refine wpS_bind (wpS_modify (wpS_bind (wpS_get (wpS_pure ?_))))
  exact fin r g2 hr
end
def UpO (c:Nat->Nat->Bool)(p:Array Nat)(lo m:Nat):Prop:=∀ i j,lo≤i->i≤j->j < lo + m->c (at' p j) (at' p i)=false
theorem qie {α β:Type}(f:α->β)(xs:Array α)(i j:Nat):(xs.map f).swapIfInBounds i j=(xs.swapIfInBounds i j).map f:=by
 rw [Array.swapIfInBounds_def,Array.swapIfInBounds_def]
 by_cases h1:i < xs.size
 ·by_cases h2:j < xs.size
  ·rw [dif_pos (by simpa using h1),dif_pos (by simpa using h2),dif_pos h1,dif_pos h2]
   apply Array.ext (by simp)
   intro k hk1 hk2
   simp [Array.getElem_swap]
   split <;> (try split) <;> rfl
  ·rw [dif_pos (by simpa using h1),dif_neg (by simpa using h2),dif_pos h1,dif_neg h2]
 ·rw [dif_neg (by simpa using h1),dif_neg h1]
theorem qcV {α β γ:Type}(f:α->β)(p q:γ->Nat):∀ (l:List γ) (xs:Array α),l.foldl (fun a k=>a.swapIfInBounds (p k) (q k)) (xs.map f)=(l.foldl (fun a k=>a.swapIfInBounds (p k) (q k)) xs).map f
 | [],xs=>rfl
 | k :: l,xs=>by rw [List.foldl_cons,List.foldl_cons,qie,qcV f p q l]
theorem qgn {α β:Type}(f:α->β)(xs:Array α)(i d:Nat):bubble (xs.map f) i d=(bubble xs i d).map f:=qcV f _ _ _ _
theorem qgg {α β:Type}(f:α->β)(xs:Array α)(i j d:Nat):mirror (xs.map f) i j d=(mirror xs i j d).map f:=qcV f _ _ _ _
section
variable {prog:Program}{w:World}{A:Around}{E:Value->Shared->Prop}{s:Shared}
theorem qaQ {c:Nat->Nat->Bool}{kv:Nat->Keyed}{κ:SortKind}{n:Nat}(C:Cmp prog w A E s c kv κ n){p:Array Nat}(hp:Of n p){pd:Array (Nat × Nat × Nat)}{g i j:Nat}(hi:i < n)(hj:j < n)(ne:i≠j){Q:Option Bool->SortSt->Prop}(h:Q (some (c (at' p i) (at' p j))) (SS κ (p.map kv) pd g)):wpS (model prog w) A E s (ltAt' i j) Q (SS κ (p.map kv) pd g):=by
 have sz:=hp.size
 rw [ltAt'_eq]
 refine wpS_bind (wpS_get ?_)
 have ei:∀ {i:Nat},i < n->(p.map kv)[i]?=some (kv (at' p i)):=fun {i} hi=>by
  rw [Array.getElem?_map]
  unfold at'
  rw [Array.getD_eq_getD_getElem?]
  rw [getElem?_pos p i (by omega)]
  rfl
 refine wpS_bind (qac (ei hi) (wpS_bind (qac (ei hj) ?_)))
 exact C.lt _ _ (hp.inn hi hj ne) _ rfl _ h
theorem qfW {c:Nat->Nat->Bool}{kv:Nat->Keyed}{κ:SortKind}{n:Nat}(C:Cmp prog w A E s c kv κ n){p:Array Nat}(hp:Of n p){pd:Array (Nat × Nat × Nat)}{g lo m ok:Nat}(hm:lo + m≤n)(hok:ok≤m)(u:UpO c p lo ok){Q:Bool->SortSt->Prop}
  (h:∀ p':Array Nat,Of n p'->UpO c p' lo m->(∀ i,i < lo->at' p' i=at' p i)->Q true (SS κ (p'.map kv) pd g)):wpS (model prog w) A E s (binarySort' lo m ok) Q (SS κ (p.map kv) pd g):=by
 have O:=C.O
 rw [binarySort'_eq]
 refine wpS_bind (wpS_mono (wpS_forRange (I:=fun k z st'=>z=(none,())/\∃ p':Array Nat,st'=SS κ (p'.map kv) pd g/\Of n p'/\UpO c p' lo (min k m)/\∀ i,i < lo->at' p' i=at' p i)
  (Q:=fun z st'=>z=(none,())/\∃ p':Array Nat,st'=SS κ (p'.map kv) pd g/\Of n p'/\UpO c p' lo m/\∀ i,i < lo->at' p' i=at' p i) ?_ ?_ ?_) ?_)
 ·rintro k z st' hk1 hk2 ⟨rfl,p',rfl,o',u',pr⟩
  rw [show min k m=k by omega] at u'
  have sz:=o'.size
  refine wpS_bind (wpS_mono (wpS_forRange (I:=fun x z st''=>st''=SS κ (p'.map kv) pd g/\∃ l r,z=(none,l,r)/\l≤r/\r≤k/\r - l≤k - x/\(∀ i,i < l->c (at' p' (lo + k)) (at' p' (lo + i))=false)/\∀ i,r≤i->i < k->c (at' p' (lo + i)) (at' p' (lo + k))=false)
   (Q:=fun z st''=>st''=SS κ (p'.map kv) pd g/\∃ l,(∃ r,z=(none,l,r))/\l≤k/\(∀ i,i < l->c (at' p' (lo + k)) (at' p' (lo + i))=false)/\∀ i,l≤i->i < k->c (at' p' (lo + i)) (at' p' (lo + k))=false) ?_ ?_ ⟨rfl,0,k,rfl,by omega,by omega,by omega,fun i hi=>by omega,fun i h1 h2=>by omega⟩) ?_)
  ·rintro x z st'' _ hx ⟨rfl,l,r,rfl,hlr,hrk,hd,h1,h2⟩
   dsimp only
   by_cases e:l ≥ r
   ·rw [if_pos e]
    obtain rfl:l=r:=by omega
    exact wpS_pure ⟨rfl,l,⟨_,rfl⟩,hrk,h1,h2⟩
   ·rw [if_neg e]
    refine wpS_bind (qaQ C o' (by omega) (by omega) (by omega) ?_)
    dsimp only
    cases hc:c (at' p' (lo + k)) (at' p' (lo + (l + r) / 2)) with
    | true =>
     simp only [if_true]
     exact wpS_pure ⟨rfl,_,_,rfl,by omega,by omega,by omega,h1,fun i q1 q2=>O.tr _ _ _ (O.asym _ _ hc) (u' _ _ (by omega) (by omega) (by omega))⟩
    | false =>
     simp only [Bool.false_eq_true,if_false]
     exact wpS_pure ⟨rfl,_,_,rfl,by omega,by omega,by omega,fun i q=>O.tr _ _ _ (u' _ _ (by omega) (by omega) (by omega)) hc,h2⟩
  ·rintro z st'' ⟨rfl,l,r,rfl,hlr,hrk,hd,h1,h2⟩
   obtain rfl:l=r:=by omega
   exact ⟨rfl,l,⟨_,rfl⟩,hrk,h1,h2⟩
  ·rintro z st'' ⟨rfl,l,⟨r,rfl⟩,hlk,h1,h2⟩
   dsimp only
   rw [moveDown'_eq]
   refine wpS_bind (wpS_modify (wpS_pure ⟨rfl,bubble p' (lo + k) (lo + k - (lo + l)),?_,o'.bub _ _,?_,?_⟩))
   ·show SS κ (bubble (p'.map kv) (lo + k) (lo + k - (lo + l))) pd g=_
    rw [qgn]
   ·rw [show min (k + 1) m=k + 1 by omega]
    intro i j hi hij hj
    rw [qhY (by omega) (by omega),qhY (by omega) (by omega)]
    by_cases ji:j=lo + l
    ·rw [if_pos ji]
     by_cases ii:i=lo + l
     ·rw [if_pos ii]; exact O.irr _
     ·rw [if_neg ii,if_neg (by omega)]
      have:=h1 (i - lo) (by omega)
      rwa [show lo + (i - lo)=i by omega] at this
    ·rw [if_neg ji]
     by_cases ii:i=lo + l
     ·rw [if_pos ii,if_pos (by omega)]
      have:=h2 (j - 1 - lo) (by omega) (by omega)
      rwa [show lo + (j - 1 - lo)=j - 1 by omega] at this
     ·rw [if_neg ii]
      split <;> split
      ·exact u' _ _ (by omega) (by omega) (by omega)
      ·exact u' _ _ (by omega) (by omega) (by omega)
      ·omega
      ·exact u' _ _ (by omega) (by omega) (by omega)
   ·intro i hi
    rw [qhY (by omega) (by omega),if_neg (by omega),if_neg (by omega)]
    exact pr i hi
 ·rintro z st' ⟨rfl,p',rfl,o',u',pr⟩
  refine ⟨rfl,p',rfl,o',?_,pr⟩
  rwa [show min (max (max ok 1) m) m=m by omega] at u'
 ·refine ⟨rfl,p,rfl,hp,fun i j hi hij hj=>?_,fun _ _=>rfl⟩
  by_cases q:ok=0
  ·have:i=j:=by omega
   subst this; exact O.irr _
  ·exact u i j hi hij (by omega)
 ·rintro z st' ⟨rfl,p',rfl,o',u',pr⟩
  exact wpS_pure (h p' o' u' pr)
end
def DnO (c:Nat->Nat->Bool)(p:Array Nat)(lo m:Nat):Prop:=∀ i j,lo≤i->i≤j->j < lo + m->c (at' p i) (at' p j)=false
def EqO (c:Nat->Nat->Bool)(p:Array Nat)(lo m q:Nat):Prop:=∀ i j,lo + m≤i + (q + 1)->lo + m≤j + (q + 1)->i < lo + m->j < lo + m->c (at' p i) (at' p j)=false
section
variable {c:Nat->Nat->Bool}(O:Ord c)
include O
theorem qb7 {p:Array Nat}{lo m:Nat}(h:UpO c p lo m)(h1:1≤m)(e:c (at' p (lo + m)) (at' p (lo + m - 1))=false):UpO c p lo (m + 1):=by
 intro i j hi hij hj
 by_cases q:j < lo + m
 ·exact h i j hi hij q
 ·obtain rfl:j=lo + m:=by omega
  by_cases r:i=lo + m
  ·subst r; exact O.irr _
  ·exact O.tr _ _ _ (h i (lo + m - 1) hi (by omega) (by omega)) e
theorem qbD {p:Array Nat}{lo m:Nat}(h:DnO c p lo m)(h1:1≤m)(e:c (at' p (lo + m - 1)) (at' p (lo + m))=false):DnO c p lo (m + 1):=by
 intro i j hi hij hj
 by_cases q:j < lo + m
 ·exact h i j hi hij q
 ·obtain rfl:j=lo + m:=by omega
  by_cases r:i=lo + m
  ·subst r; exact O.irr _
  ·exact O.tr _ _ _ e (h i (lo + m - 1) hi (by omega) (by omega))
theorem qd3 {p:Array Nat}{lo m q:Nat}(hm:lo + m≤p.size)(d:DnO c p lo m)(e:EqO c p lo m q)(hq:q + 1≤m):DnO c (kas_rev p (lo + m - (q + 1)) (lo + m)) lo m:=by
 intro i j hi hij hj
 rw [qa7 hm,qa7 hm]
 split <;> split
 ·exact e _ _ (by omega) (by omega) (by omega) (by omega)
 ·omega
 ·exact d _ _ (by omega) (by omega) (by omega)
 ·exact d _ _ hi hij hj
theorem qb8 {p:Array Nat}{lo m:Nat}(hm:lo + m≤p.size)(d:DnO c p lo m):UpO c (kas_rev p lo (lo + m)) lo m:=by
 intro i j hi hij hj
 rw [qa7 hm,qa7 hm,if_pos (by omega),if_pos (by omega)]
 exact d _ _ (by omega) (by omega) (by omega)
end
section
variable {prog:Program}{w:World}{A:Around}{E:Value->Shared->Prop}{s:Shared}
theorem qby {kv:Nat->Keyed}{κ:SortKind}{p:Array Nat}{pd:Array (Nat × Nat × Nat)}{g i j:Nat}{Q:Unit->SortSt->Prop}(h:Q () (SS κ ((kas_rev p i j).map kv) pd g)):wpS (model prog w) A E s (reverseSlice' i j) Q (SS κ (p.map kv) pd g):=by
 rw [reverseSlice'_eq]
 refine wpS_modify ?_
 have e:(mirror (p.map kv) i j ((j - i) / 2))=(kas_rev p i j).map kv:=qgg kv p i j _
 show Q () (SS κ (mirror (p.map kv) i j ((j - i) / 2)) pd g)
 rw [e]; exact h
theorem qgu {c:Nat->Nat->Bool}{kv:Nat->Keyed}{κ:SortKind}{n:Nat}(C:Cmp prog w A E s c kv κ n){p:Array Nat}(hp:Of n p){pd:Array (Nat × Nat × Nat)}{g lo m:Nat}(hm:lo + m≤n)(h1:1≤m){Q:Option Nat->SortSt->Prop}
  (h:∀ (r:Nat) (p':Array Nat),1≤r->r≤m->Of n p'->UpO c p' lo r->(∀ i,i < lo->at' p' i=at' p i)->Q (some r) (SS κ (p'.map kv) pd g)):wpS (model prog w) A E s (countRun' lo m) Q (SS κ (p.map kv) pd g):=by
 have O:=C.O
 rw [countRun'_eq]
 refine wpS_bind (wpS_mono (wpS_forRange (I:=fun x z st'=>st'=SS κ (p.map kv) pd g/\z=(none,x)/\UpO c p lo x)
  (Q:=fun z st'=>st'=SS κ (p.map kv) pd g/\∃ x,z=(none,x)/\1≤x/\x≤m/\UpO c p lo x/\(x=m\/(x < m/\c (at' p (lo + x)) (at' p (lo + x - 1))=true))) ?_ ?_ ⟨rfl,rfl,fun i j hi hij hj=>by have:i=j:=(by omega); subst this; exact O.irr _⟩) ?_)
 ·rintro x z st' hx1 hx2 ⟨rfl,rfl,u⟩
  dsimp only
  refine wpS_bind (qaQ C hp (by omega) (by omega) (by omega) ?_)
  dsimp only
  cases hc:c (at' p (lo + x)) (at' p (lo + x - 1)) with
  | true =>
   simp only [if_true]
   exact wpS_pure ⟨rfl,x,rfl,hx1,by omega,u,.inr ⟨hx2,hc⟩⟩
  | false =>
   simp only [Bool.false_eq_true,if_false]
   exact wpS_pure ⟨rfl,rfl,qb7 O u hx1 hc⟩
 ·rintro z st' ⟨rfl,rfl,u⟩
  rw [show max 1 m=m by omega] at u ⊢
  exact ⟨rfl,m,rfl,h1,Nat.le_refl _,u,.inl rfl⟩
 ·rintro z st' ⟨rfl,x,rfl,hx1,hx2,u,hor⟩
  dsimp only
  by_cases e:x=m
  ·rw [if_pos (by simpa using e)]
   exact wpS_pure (h x p hx1 hx2 hp u fun _ _=>rfl)
  rw [if_neg (by simpa using e)]
  have hc:=(hor.resolve_left e).2
  have xm:=(hor.resolve_left e).1
  have szp:=hp.size
  by_cases x1:x > 1
  ·rw [if_pos x1]
   refine wpS_bind (qaQ C hp (by omega) (by omega) (by omega) ?_)
   dsimp only
   cases hr:c (at' p lo) (at' p (lo + x - 1)) with
   | true =>
    simp only [if_true]
    exact wpS_pure (h x p hx1 hx2 hp u fun _ _=>rfl)
   | false =>
    simp only [Bool.false_eq_true,if_false]
    have all:∀ a b,lo≤a->a < lo + x->lo≤b->b < lo + x->c (at' p a) (at' p b)=false:=fun a b a1 a2 b1 b2 =>
     O.tr _ _ _ (u b (lo + x - 1) b1 (by omega) (by omega)) (O.tr _ _ _ hr (u lo a (Nat.le_refl _) a1 a2))
    refine wpS_bind (qby ?_)
    have ox:=hp.rev lo (lo + x)
    have dx:DnO c (kas_rev p lo (lo + x)) lo (x + 1):=by
     intro i j hi hij hj
     rw [qa7 (by omega),qa7 (by omega)]
     by_cases ej:j < lo + x
     ·rw [if_pos (by omega),if_pos (by omega)]
      exact all _ _ (by omega) (by omega) (by omega) (by omega)
     ·obtain rfl:j=lo + x:=by omega
      rw [if_neg (show ¬ (lo≤lo + x/\lo + x < lo + x) by omega)]
      by_cases ei:i < lo + x
      ·rw [if_pos (by omega)]
       exact O.tr _ _ _ (O.asym _ _ hc) (all _ _ (by omega) (by omega) (by omega) (by omega))
      ·rw [if_neg (by omega)]
       obtain rfl:i=lo + x:=by omega
       exact O.irr _
    have prx:∀ i,i < lo->at' (kas_rev p lo (lo + x)) i=at' p i:=fun i hi=>by rw [qa7 (by omega),if_neg (by omega)]
    refine wpS_bind (wpS_lift (wpAny_rule ⟨rfl,?_⟩))
    refine wpS_bind (wpS_mono (wpS_forRange (I:=fun y z st'=>∃ q p',st'=SS κ (p'.map kv) pd g/\z=(none,y,q)/\Of n p'/\DnO c p' lo y/\EqO c p' lo y q/\q + 1≤y/\∀ i,i < lo->at' p' i=at' p i)
     (Q:=fun z st'=>∃ y q p',st'=SS κ (p'.map kv) pd g/\z=(none,y,q)/\1≤y/\y≤m/\Of n p'/\DnO c p' lo y/\EqO c p' lo y q/\q + 1≤y/\∀ i,i < lo->at' p' i=at' p i) ?_ ?_ ⟨0,kas_rev p lo (lo + x),rfl,rfl,ox,dx,fun i j a1 a2 a3 a4=>by have:i=j:=(by omega); subst this; exact O.irr _,by omega,prx⟩) ?_)
    ·rintro y z st' hy1 hy2 ⟨q,p',rfl,rfl,o',d',e',hq,pr'⟩
     have sz:=o'.size
     dsimp only
     refine wpS_bind (qaQ C o' (by omega) (by omega) (by omega) ?_)
     dsimp only
     cases hc1:c (at' p' (lo + y)) (at' p' (lo + y - 1)) with
     | true =>
      simp only [if_true]
      have as:=O.asym _ _ hc1
      by_cases q0:q > 0
      ·rw [if_pos q0]
       refine wpS_bind (qby (wpS_pure ⟨0,_,rfl,rfl,o'.rev _ _,qbD O (qd3 O (by omega) d' e' hq) (by omega) ?_,fun i j a1 a2 a3 a4=>by have:i=j:=(by omega); subst this; exact O.irr _,by omega,fun i hi=>?_⟩))
       ·rw [qa7 (by omega),qa7 (by omega),if_pos (by omega),if_neg (by omega)]
        exact O.tr _ _ _ as (e' _ _ (by omega) (by omega) (by omega) (by omega))
       ·rw [qa7 (by omega),if_neg (by omega)]
        exact pr' i hi
      ·rw [if_neg q0]
       exact wpS_pure ⟨0,p',rfl,rfl,o',qbD O d' (by omega) as,fun i j a1 a2 a3 a4=>by have:i=j:=(by omega); subst this; exact O.irr _,by omega,pr'⟩
     | false =>
      simp only [Bool.false_eq_true,if_false]
      refine wpS_bind (qaQ C o' (by omega) (by omega) (by omega) ?_)
      dsimp only
      cases hc2:c (at' p' (lo + y - 1)) (at' p' (lo + y)) with
      | true =>
       simp only [if_true]
       exact wpS_pure ⟨y,q,p',rfl,rfl,by omega,by omega,o',d',e',hq,pr'⟩
      | false =>
       simp only [Bool.false_eq_true,if_false]
       refine wpS_pure ⟨q + 1,p',rfl,rfl,o',qbD O d' (by omega) hc2,fun i j a1 a2 a3 a4=>?_,by omega,pr'⟩
       by_cases ei:i=lo + y
       ·by_cases ej:j=lo + y
        ·rw [ei,ej]; exact O.irr _
        ·rw [ei]
         exact O.tr _ _ _ (e' (lo + y - 1) j (by omega) (by omega) (by omega) (by omega)) hc1
       ·by_cases ej:j=lo + y
        ·rw [ej]
         exact O.tr _ _ _ hc2 (e' i (lo + y - 1) (by omega) (by omega) (by omega) (by omega))
        ·exact e' i j (by omega) (by omega) (by omega) (by omega)
    ·rintro z st' ⟨q,p',rfl,rfl,o',d',e',hq,pr'⟩
     rw [show max (x + 1) m=m by omega] at d' e' hq ⊢
     exact ⟨m,q,p',rfl,rfl,h1,Nat.le_refl _,o',d',e',hq,pr'⟩
    ·rintro z st' ⟨y,q,p',rfl,rfl,hy1,hy2,o',d',e',hq,pr'⟩
     have sz:=o'.size
     dsimp only
     by_cases q0:q > 0
     ·rw [if_pos q0]
      refine wpS_bind (qby ?_)
      have oz:=o'.rev (lo + y - (q + 1)) (lo + y)
      have dz:=qd3 O (by omega) d' e' hq
      have prz:∀ i,i < lo->at' (kas_rev p' (lo + y - (q + 1)) (lo + y)) i=at' p i:=fun i hi=>by
       rw [qa7 (by omega),if_neg (by omega)]; exact pr' i hi
      refine wpS_bind (qby ?_)
      refine wpS_bind (wpS_mono (wpS_forRange (I:=fun t z st'=>st'=SS κ ((kas_rev (kas_rev p' (lo + y - (q + 1)) (lo + y)) lo (lo + y)).map kv) pd g/\z=(none,t)/\UpO c (kas_rev (kas_rev p' (lo + y - (q + 1)) (lo + y)) lo (lo + y)) lo t)
       (Q:=fun z st'=>st'=SS κ ((kas_rev (kas_rev p' (lo + y - (q + 1)) (lo + y)) lo (lo + y)).map kv) pd g/\∃ t,z=(none,t)/\1≤t/\t≤m/\UpO c (kas_rev (kas_rev p' (lo + y - (q + 1)) (lo + y)) lo (lo + y)) lo t) ?_ ?_ ⟨rfl,rfl,qb8 O (by rw [oz.size]; omega) dz⟩) ?_)
      ·rintro t z st' ht1 ht2 ⟨rfl,rfl,ut⟩
       dsimp only
       refine wpS_bind (qaQ C (oz.rev _ _) (by omega) (by omega) (by omega) ?_)
       dsimp only
       cases hct:c (at' (kas_rev (kas_rev p' (lo + y - (q + 1)) (lo + y)) lo (lo + y)) (lo + t)) (at' (kas_rev (kas_rev p' (lo + y - (q + 1)) (lo + y)) lo (lo + y)) (lo + t - 1)) with
       | true =>
        simp only [if_true]
        exact wpS_pure ⟨rfl,t,rfl,by omega,by omega,ut⟩
       | false =>
        simp only [Bool.false_eq_true,if_false]
        exact wpS_pure ⟨rfl,rfl,qb7 O ut (by omega) hct⟩
      ·rintro z st' ⟨rfl,rfl,ut⟩
       rw [show max y m=m by omega] at ut ⊢
       exact ⟨rfl,m,rfl,h1,Nat.le_refl _,ut⟩
      ·rintro z st' ⟨rfl,t,rfl,ht1,ht2,ut⟩
       refine wpS_pure (h t _ ht1 ht2 (oz.rev _ _) ut fun i hi=>?_)
       rw [qa7 (by rw [oz.size]; omega),if_neg (by omega)]
       exact prz i hi
     ·rw [if_neg q0]
      have oz:=o'
      have dz:=d'
      have prz:=pr'
      refine wpS_bind (qby ?_)
      refine wpS_bind (wpS_mono (wpS_forRange (I:=fun t z st'=>st'=SS κ ((kas_rev (p') lo (lo + y)).map kv) pd g/\z=(none,t)/\UpO c (kas_rev (p') lo (lo + y)) lo t)
       (Q:=fun z st'=>st'=SS κ ((kas_rev (p') lo (lo + y)).map kv) pd g/\∃ t,z=(none,t)/\1≤t/\t≤m/\UpO c (kas_rev (p') lo (lo + y)) lo t) ?_ ?_ ⟨rfl,rfl,qb8 O (by rw [oz.size]; omega) dz⟩) ?_)
      ·rintro t z st' ht1 ht2 ⟨rfl,rfl,ut⟩
       dsimp only
       refine wpS_bind (qaQ C (oz.rev _ _) (by omega) (by omega) (by omega) ?_)
       dsimp only
       cases hct:c (at' (kas_rev (p') lo (lo + y)) (lo + t)) (at' (kas_rev (p') lo (lo + y)) (lo + t - 1)) with
       | true =>
        simp only [if_true]
        exact wpS_pure ⟨rfl,t,rfl,by omega,by omega,ut⟩
       | false =>
        simp only [Bool.false_eq_true,if_false]
        exact wpS_pure ⟨rfl,rfl,qb7 O ut (by omega) hct⟩
      ·rintro z st' ⟨rfl,rfl,ut⟩
       rw [show max y m=m by omega] at ut ⊢
       exact ⟨rfl,m,rfl,h1,Nat.le_refl _,ut⟩
      ·rintro z st' ⟨rfl,t,rfl,ht1,ht2,ut⟩
       refine wpS_pure (h t _ ht1 ht2 (oz.rev _ _) ut fun i hi=>?_)
       rw [qa7 (by rw [oz.size]; omega),if_neg (by omega)]
       exact prz i hi
  ·rw [if_neg x1]
   obtain rfl:x=1:=by omega
   have ox:=hp
   have dx:DnO c p lo (1 + 1):=qbD O (m:=1) (fun i j hi hij hj=>by have:i=j:=(by omega); subst this; exact O.irr _) (by omega) (O.asym _ _ hc)
   have prx:∀ i,i < lo->at' p i=at' p i:=fun _ _=>rfl
   refine wpS_bind (wpS_lift (wpAny_rule ⟨rfl,?_⟩))
   refine wpS_bind (wpS_mono (wpS_forRange (I:=fun y z st'=>∃ q p',st'=SS κ (p'.map kv) pd g/\z=(none,y,q)/\Of n p'/\DnO c p' lo y/\EqO c p' lo y q/\q + 1≤y/\∀ i,i < lo->at' p' i=at' p i)
    (Q:=fun z st'=>∃ y q p',st'=SS κ (p'.map kv) pd g/\z=(none,y,q)/\1≤y/\y≤m/\Of n p'/\DnO c p' lo y/\EqO c p' lo y q/\q + 1≤y/\∀ i,i < lo->at' p' i=at' p i) ?_ ?_ ⟨0,p,rfl,rfl,ox,dx,fun i j a1 a2 a3 a4=>by have:i=j:=(by omega); subst this; exact O.irr _,by omega,prx⟩) ?_)
   ·rintro y z st' hy1 hy2 ⟨q,p',rfl,rfl,o',d',e',hq,pr'⟩
    have sz:=o'.size
    dsimp only
    refine wpS_bind (qaQ C o' (by omega) (by omega) (by omega) ?_)
    dsimp only
    cases hc1:c (at' p' (lo + y)) (at' p' (lo + y - 1)) with
    | true =>
     simp only [if_true]
     have as:=O.asym _ _ hc1
     by_cases q0:q > 0
     ·rw [if_pos q0]
      refine wpS_bind (qby (wpS_pure ⟨0,_,rfl,rfl,o'.rev _ _,qbD O (qd3 O (by omega) d' e' hq) (by omega) ?_,fun i j a1 a2 a3 a4=>by have:i=j:=(by omega); subst this; exact O.irr _,by omega,fun i hi=>?_⟩))
      ·rw [qa7 (by omega),qa7 (by omega),if_pos (by omega),if_neg (by omega)]
       exact O.tr _ _ _ as (e' _ _ (by omega) (by omega) (by omega) (by omega))
      ·rw [qa7 (by omega),if_neg (by omega)]
       exact pr' i hi
     ·rw [if_neg q0]
      exact wpS_pure ⟨0,p',rfl,rfl,o',qbD O d' (by omega) as,fun i j a1 a2 a3 a4=>by have:i=j:=(by omega); subst this; exact O.irr _,by omega,pr'⟩
    | false =>
     simp only [Bool.false_eq_true,if_false]
     refine wpS_bind (qaQ C o' (by omega) (by omega) (by omega) ?_)
     dsimp only
     cases hc2:c (at' p' (lo + y - 1)) (at' p' (lo + y)) with
     | true =>
      simp only [if_true]
      exact wpS_pure ⟨y,q,p',rfl,rfl,by omega,by omega,o',d',e',hq,pr'⟩
     | false =>
      simp only [Bool.false_eq_true,if_false]
      refine wpS_pure ⟨q + 1,p',rfl,rfl,o',qbD O d' (by omega) hc2,fun i j a1 a2 a3 a4=>?_,by omega,pr'⟩
      by_cases ei:i=lo + y
      ·by_cases ej:j=lo + y
       ·rw [ei,ej]; exact O.irr _
       ·rw [ei]
        exact O.tr _ _ _ (e' (lo + y - 1) j (by omega) (by omega) (by omega) (by omega)) hc1
      ·by_cases ej:j=lo + y
       ·rw [ej]
        exact O.tr _ _ _ hc2 (e' i (lo + y - 1) (by omega) (by omega) (by omega) (by omega))
       ·exact e' i j (by omega) (by omega) (by omega) (by omega)
   ·rintro z st' ⟨q,p',rfl,rfl,o',d',e',hq,pr'⟩
    rw [show max (1 + 1) m=m by omega] at d' e' hq ⊢
    exact ⟨m,q,p',rfl,rfl,h1,Nat.le_refl _,o',d',e',hq,pr'⟩
   ·rintro z st' ⟨y,q,p',rfl,rfl,hy1,hy2,o',d',e',hq,pr'⟩
    have sz:=o'.size
    dsimp only
    by_cases q0:q > 0
    ·rw [if_pos q0]
     refine wpS_bind (qby ?_)
     have oz:=o'.rev (lo + y - (q + 1)) (lo + y)
     have dz:=qd3 O (by omega) d' e' hq
     have prz:∀ i,i < lo->at' (kas_rev p' (lo + y - (q + 1)) (lo + y)) i=at' p i:=fun i hi=>by
      rw [qa7 (by omega),if_neg (by omega)]; exact pr' i hi
     refine wpS_bind (qby ?_)
     refine wpS_bind (wpS_mono (wpS_forRange (I:=fun t z st'=>st'=SS κ ((kas_rev (kas_rev p' (lo + y - (q + 1)) (lo + y)) lo (lo + y)).map kv) pd g/\z=(none,t)/\UpO c (kas_rev (kas_rev p' (lo + y - (q + 1)) (lo + y)) lo (lo + y)) lo t)
      (Q:=fun z st'=>st'=SS κ ((kas_rev (kas_rev p' (lo + y - (q + 1)) (lo + y)) lo (lo + y)).map kv) pd g/\∃ t,z=(none,t)/\1≤t/\t≤m/\UpO c (kas_rev (kas_rev p' (lo + y - (q + 1)) (lo + y)) lo (lo + y)) lo t) ?_ ?_ ⟨rfl,rfl,qb8 O (by rw [oz.size]; omega) dz⟩) ?_)
     ·rintro t z st' ht1 ht2 ⟨rfl,rfl,ut⟩
      dsimp only
      refine wpS_bind (qaQ C (oz.rev _ _) (by omega) (by omega) (by omega) ?_)
      dsimp only
      cases hct:c (at' (kas_rev (kas_rev p' (lo + y - (q + 1)) (lo + y)) lo (lo + y)) (lo + t)) (at' (kas_rev (kas_rev p' (lo + y - (q + 1)) (lo + y)) lo (lo + y)) (lo + t - 1)) with
      | true =>
       simp only [if_true]
       exact wpS_pure ⟨rfl,t,rfl,by omega,by omega,ut⟩
      | false =>
       simp only [Bool.false_eq_true,if_false]
       exact wpS_pure ⟨rfl,rfl,qb7 O ut (by omega) hct⟩
     ·rintro z st' ⟨rfl,rfl,ut⟩
      rw [show max y m=m by omega] at ut ⊢
      exact ⟨rfl,m,rfl,h1,Nat.le_refl _,ut⟩
     ·rintro z st' ⟨rfl,t,rfl,ht1,ht2,ut⟩
      refine wpS_pure (h t _ ht1 ht2 (oz.rev _ _) ut fun i hi=>?_)
      rw [qa7 (by rw [oz.size]; omega),if_neg (by omega)]
      exact prz i hi
    ·rw [if_neg q0]
     have oz:=o'
     have dz:=d'
     have prz:=pr'
     refine wpS_bind (qby ?_)
     refine wpS_bind (wpS_mono (wpS_forRange (I:=fun t z st'=>st'=SS κ ((kas_rev (p') lo (lo + y)).map kv) pd g/\z=(none,t)/\UpO c (kas_rev (p') lo (lo + y)) lo t)
      (Q:=fun z st'=>st'=SS κ ((kas_rev (p') lo (lo + y)).map kv) pd g/\∃ t,z=(none,t)/\1≤t/\t≤m/\UpO c (kas_rev (p') lo (lo + y)) lo t) ?_ ?_ ⟨rfl,rfl,qb8 O (by rw [oz.size]; omega) dz⟩) ?_)
     ·rintro t z st' ht1 ht2 ⟨rfl,rfl,ut⟩
      dsimp only
      refine wpS_bind (qaQ C (oz.rev _ _) (by omega) (by omega) (by omega) ?_)
      dsimp only
      cases hct:c (at' (kas_rev (p') lo (lo + y)) (lo + t)) (at' (kas_rev (p') lo (lo + y)) (lo + t - 1)) with
      | true =>
       simp only [if_true]
       exact wpS_pure ⟨rfl,t,rfl,by omega,by omega,ut⟩
      | false =>
       simp only [Bool.false_eq_true,if_false]
       exact wpS_pure ⟨rfl,rfl,qb7 O ut (by omega) hct⟩
     ·rintro z st' ⟨rfl,rfl,ut⟩
      rw [show max y m=m by omega] at ut ⊢
      exact ⟨rfl,m,rfl,h1,Nat.le_refl _,ut⟩
     ·rintro z st' ⟨rfl,t,rfl,ht1,ht2,ut⟩
      refine wpS_pure (h t _ ht1 ht2 (oz.rev _ _) ut fun i hi=>?_)
      rw [qa7 (by rw [oz.size]; omega),if_neg (by omega)]
      exact prz i hi
end
structure Gd (c:Nat->Nat->Bool)(R:List Rn):Prop where
 up:∀ r∈R,Asc c r.1/\1≤r.1.length
theorem qbS (R S:List Rn):flat (R ++ S)=flat R ++ flat S:=by simp [flat]
theorem qbR (l:List Nat)(x:Nat):flat [(l,x)]=l:=by simp [flat]
theorem qiR (l m:List Nat)(x y:Nat)(R:List Rn):flat ((l,x) :: (m,y) :: R)=l ++ m ++ flat R:=by simp [flat]
theorem qjj {c:Nat->Nat->Bool}:∀ {R:List Rn},Gd c R->R.length≤(flat R).length
 | [],_=>Nat.zero_le _
 | (l,x) :: R,h=>by
  have h1:=(h.up (l,x) (by simp)).2
  have h2:=qjj (R:=R) ⟨fun r hr=>h.up r (List.mem_cons_of_mem _ hr)⟩
  have:(flat ((l,x) :: R)).length=l.length + (flat R).length:=by simp [flat]
  rw [this,List.length_cons]
  dsimp only at h1
  omega
theorem Gd.app {c:Nat->Nat->Bool}{R S:List Rn}(h:Gd c R)(k:Gd c S):Gd c (R ++ S):=⟨fun r hr=>by
 rcases List.mem_append.mp hr with q | q
 ·exact h.up r q
 ·exact k.up r q⟩
theorem Gd.left {c:Nat->Nat->Bool}{R S:List Rn}(h:Gd c (R ++ S)):Gd c R:=⟨fun r hr=>h.up r (List.mem_append_left _ hr)⟩
theorem Gd.right {c:Nat->Nat->Bool}{R S:List Rn}(h:Gd c (R ++ S)):Gd c S:=⟨fun r hr=>h.up r (List.mem_append_right _ hr)⟩
theorem Gd.one {c:Nat->Nat->Bool}{l:List Nat}{x:Nat}(h:Asc c l)(k:1≤l.length):Gd c [(l,x)]:=⟨fun r hr=>by rw [List.mem_singleton] at hr; subst hr; exact ⟨h,k⟩⟩
theorem cut2 {α:Type}(R:List α)(i:Nat)(h:i + 2≤R.length):∃ R1 a b R2,R=R1 ++ a :: b :: R2/\R1.length=i:=by
 refine ⟨R.take i,R[i],R[i + 1],R.drop (i + 2),?_,by rw [List.length_take]; omega⟩
 rw [<- List.drop_eq_getElem_cons (by omega),<- List.drop_eq_getElem_cons (by omega),List.take_append_drop]
theorem qiH (t:Nat)(R:List Rn)(h:R≠[])(f:Nat × Nat × Nat->Nat × Nat × Nat)(pw:Nat)(hf:∀ a b d,f (a,b,d)=(a,b,pw)):∃ R',(pend t R).toArray.modify ((pend t R).toArray.size - 1) f=(pend t R').toArray/\flat R'=flat R/\(∀ c,Gd c R->Gd c R'):=by
 obtain ⟨S,⟨l,x⟩,rfl⟩:∃ S a,R=S ++ [a]:=⟨R.dropLast,R.getLast h,(List.dropLast_concat_getLast h).symm⟩
 refine ⟨S ++ [(l,pw)],?_,by simp [flat],fun c g=>?_⟩
 ·apply Array.toList_inj.mp
  rw [qa3,qa3]
  have e:∀ y,pend (t + (flat S).length) [(l,y)]=[(t + (flat S).length,l.length,y)]:=fun y=>rfl
  rw [e,e]
  have k:=qa2 t S
  rw [Array.toList_modify]
  have z:(pend t S ++ [(t + (flat S).length,l.length,x)]).toArray.size - 1=(pend t S).length:=by simp
  rw [z]
  show (pend t S ++ [(t + (flat S).length,l.length,x)]).modify (pend t S).length f=pend t S ++ [(t + (flat S).length,l.length,pw)]
  generalize pend t S=X
  induction X with
  | nil=>simp [hf]
  | cons a X ih=>simpa using ih
 ·have h1:=g.right.up (l,x) (by simp)
  exact g.left.app (Gd.one h1.1 h1.2)
theorem qkm {P:Nat->Prop}{c:Prop}[Decidable c]{a b:Nat}(h:∀ i,(i=a\/i=b)->P i):P (if c then a else b):=by
 split
 ·exact h _ (.inl rfl)
 ·exact h _ (.inr rfl)
theorem qjg {n:Nat}{l:List Nat}(h:l.Perm (List.range n)):Of n l.toArray:=by
 unfold Of
 exact ⟨h⟩
theorem qlU {n:Nat}{p:Array Nat}(h:Of n p):p.toList.Perm (List.range n):=h.toList
theorem qcz {p:Array Nat}{i:Nat}(h:i < p.toList.length):at' p i=p.toList[i]:=by
 unfold at'
 rw [Array.getD_eq_getD_getElem?]
 rw [getElem?_pos p i (by simpa using h)]
 simp
theorem qgF {p q:Array Nat}{n lo:Nat}(hp:p.size=n)(hq:q.size=n)(hlo:lo≤n)(h:∀ i,i < lo->at' p i=at' q i):p.toList.take lo=q.toList.take lo:=by
 refine List.ext_getElem (by simp; omega) fun i h1 h2=>?_
 rw [List.length_take] at h1 h2
 rw [List.getElem_take,List.getElem_take,<- qcz (by omega),<- qcz (by omega)]
 exact h i (by omega)
theorem qlT {c:Nat->Nat->Bool}{p:Array Nat}{n lo m:Nat}(hp:p.size=n)(hm:lo + m≤n)(u:UpO c p lo m):Asc c ((p.toList.drop lo).take m):=by
 rw [Asc,List.pairwise_iff_getElem]
 intro i j h1 h2 hij
 rw [List.length_take,List.length_drop] at h1 h2
 rw [List.getElem_take,List.getElem_take,List.getElem_drop,List.getElem_drop,<- qcz (by simp; omega),<- qcz (by simp; omega)]
 exact u _ _ (by omega) (by omega) (by omega)
section
variable {prog:Program}{w:World}{A:Around}{E:Value->Shared->Prop}{s:Shared}
theorem qh7 {c:Nat->Nat->Bool}{kv:Nat->Keyed}{κ:SortKind}{n:Nat}(C:Cmp prog w A E s c kv κ n)(h2:2≤n){g0:Nat}{Q:Unit->SortSt->Prop}
  (h:∀ (l:List Nat) pd g,l.Perm (List.range n)->Asc c l->Q () (SS κ (kvs kv l) pd g)):wpS (model prog w) A E s sortRuns' Q (SS κ (kvs kv (List.range n)) #[] g0):=by
 rw [sortRuns'_eq]
 refine wpS_bind (wpS_get ?_)
 dsimp only
 have sz:(arrOf (SS κ (kvs kv (List.range n)) #[] g0)).size=n:=by show (kvs kv (List.range n)).size=n; simp
 rw [sz]
 generalize minRun' n n 0=mr
 refine wpS_bind (wpS_mono (wpS_forRange
  (I:=fun k z st'=>∃ R rest g,z=(none,(flat R).length)/\st'=SS κ (kvs kv (flat R ++ rest)) (pend 0 R).toArray g/\(flat R ++ rest).Perm (List.range n)/\Gd c R/\(n≤(flat R).length\/k≤(flat R).length))
  (Q:=fun z st'=>∃ R g,z=(none,n)/\st'=SS κ (kvs kv (flat R)) (pend 0 R).toArray g/\(flat R).Perm (List.range n)/\Gd c R) ?step ?fin ⟨[],List.range n,g0,rfl,rfl,List.Perm.refl _,⟨fun _ q=>absurd q (by simp)⟩,.inr (Nat.zero_le _)⟩) ?post)
 case fin =>
  rintro z st' ⟨R,rest,g,rfl,rfl,pm,gd,k⟩
  have hl:=pm.length_eq
  rw [List.length_append,List.length_range] at hl
  have:rest=[]:=List.length_eq_zero_iff.mp (by omega)
  subst this
  rw [List.append_nil] at pm ⊢
  exact ⟨R,g,by rw [show (flat R).length=n by simp at hl; omega],rfl,pm,gd⟩
 case step =>
  rintro k z st' _ hk ⟨R,rest,g,rfl,rfl,pm,gd,kk⟩
  have hl:=pm.length_eq
  rw [List.length_append,List.length_range] at hl
  dsimp only
  by_cases e:(flat R).length ≥ n
  ·rw [if_pos e]
   have:rest=[]:=List.length_eq_zero_iff.mp (by omega)
   subst this
   rw [List.append_nil] at pm ⊢
   exact wpS_pure ⟨R,g,by rw [show (flat R).length=n by simp at hl; omega],rfl,pm,gd⟩
  ·rw [if_neg e]
   have ez:kvs kv (flat R ++ rest)=(flat R ++ rest).toArray.map kv:=by simp [kvs]
   have hp:=qjg pm
   rw [ez]
   have key:∀ (m:Nat) (p':Array Nat) (g:Nat),1≤m->(flat R).length + m≤n->Of n p'->UpO c p' (flat R).length m->(∀ i,i < (flat R).length->at' p' i=at' (flat R ++ rest).toArray i) ->
     ∃ l rest',l.length=m/\p'.map kv=kvs kv (flat R ++ (l ++ rest'))/\(flat R ++ (l ++ rest')).Perm (List.range n)/\Asc c l:=by
    intro m p' g m1 mn o' u' sm
    have es:=qgF (n:=n) o'.size hp.size (by omega) sm
    have et:p'.toList=flat R ++ ((p'.toList.drop (flat R).length).take m ++ (p'.toList.drop (flat R).length).drop m):=by
     rw [List.take_append_drop]
     conv=>lhs; rw [<- List.take_append_drop (flat R).length p'.toList]
     rw [es]
     simp
    refine ⟨(p'.toList.drop (flat R).length).take m,(p'.toList.drop (flat R).length).drop m,?_,?_,?_,qlT o'.size (by omega) u'⟩
    ·have:=o'.size
     simp
     omega
    ·rw [<- et]
     apply Array.toList_inj.mp
     simp
    ·rw [<- et]
     exact qlU o'
   refine wpS_bind (qgu C hp (by omega) (by omega) fun r p' r1 r2 o' u' sm=>?_)
   dsimp only
   rcases Nat.lt_or_ge r mr with hlt | hlt
   rw [if_pos hlt]
   refine wpS_bind (wpS_lift (wpAny_rule ⟨rfl,?_⟩))
   refine wpS_bind (qfW C o' (by omega) (by omega) u' fun p2 o2 u2 sm2=>?_)
   simp only [Bool.not_true,Bool.false_eq_true,if_false]
   obtain ⟨m,em⟩:∃ m,m=min (n - (flat R).length) mr:=⟨_,rfl⟩
   rw [<- em] at u2 ⊢
   have m1:1≤m:=by omega
   have m2:(flat R).length + m≤n:=by omega
   replace sm2:∀ i,i < (flat R).length->at' p2 i=at' (flat R ++ rest).toArray i:=fun i hi=>(sm2 i hi).trans (sm i hi)
   clear em sm u' o' hlt r1 r2
   rotate_left
   rw [if_neg (by omega)]
   obtain ⟨m,rfl⟩:∃ m,m=r:=⟨_,rfl⟩
   obtain ⟨p2,rfl⟩:∃ p2,p2=p':=⟨_,rfl⟩
   have m1:=r1
   have m2:(flat R).length + m≤n:=by omega
   have o2:=o'
   have u2:=u'
   have sm2:=sm
   clear sm u' o' hlt r1 r2
   all_goals
    obtain ⟨l,rest',hlm,ep,pm',asl⟩:=key m p2 g m1 m2 o2 u2 sm2
    rw [ep]
    have push:∀ (R':List Rn) (g':Nat),(flat R').Perm (flat R)->Gd c R'->wpS (model prog w) A E s (do
      modify fun s=>setPending s ((pendingOf s).push ((flat R).length,m,0))
      pure (ForInStep.yield (none,(flat R).length + m)):StateT SortSt Sem (ForInStep (Option Unit × Nat))) (fun r st'=>match r with
      | ForInStep.done c'=>∃ R g,c'=(none,n)/\st'=SS κ (kvs kv (flat R)) (pend 0 R).toArray g/\(flat R).Perm (List.range n)/\Gd c R
      | ForInStep.yield c'=>∃ R rest g,c'=(none,(flat R).length)/\st'=SS κ (kvs kv (flat R ++ rest)) (pend 0 R).toArray g/\(flat R ++ rest).Perm (List.range n)/\Gd c R/\(n≤(flat R).length\/k + 1≤(flat R).length)) (SS κ (kvs kv (flat R' ++ (l ++ rest'))) (pend 0 R').toArray g'):=by
     intro R' g' pr gr
     refine wpS_bind (wpS_modify (wpS_pure ⟨R' ++ [(l,0)],rest',g',?_,?_,?_,gr.app (Gd.one asl (by omega)),?_⟩))
     ·rw [qbS,qbR,List.length_append,pr.length_eq,hlm]
     ·show SS κ (kvs kv (flat R' ++ (l ++ rest'))) ((pend 0 R').toArray.push ((flat R).length,m,0)) g'=_
      rw [qbS,qbR,qa3,List.append_assoc]
      congr 1
      apply Array.toList_inj.mp
      rw [Nat.zero_add,pr.length_eq]
      rw [Array.toList_push,<- hlm]
      rfl
     ·rw [qbS,qbR,List.append_assoc]
      exact (List.Perm.append_right _ pr).trans pm'
     ·rw [qbS,qbR,List.length_append,pr.length_eq,hlm]
      omega
    refine wpS_bind (wpS_get ?_)
    have ep:pendingOf (SS κ (kvs kv (flat R ++ (l ++ rest'))) (pend 0 R).toArray g)=(pend 0 R).toArray:=rfl
    rw [ep]
    by_cases hR:R=[]
    ·have:(pend 0 R).toArray.back?=none:=by rw [hR]; rfl
     rw [this]
     exact push R g (List.Perm.refl _) gd
    ·obtain ⟨⟨s1,n1,x1⟩,eb⟩:∃ b,(pend 0 R).toArray.back?=some b:=by
      obtain ⟨S,⟨l1,x⟩,rfl⟩:∃ S a,R=S ++ [a]:=⟨R.dropLast,R.getLast hR,(List.dropLast_concat_getLast hR).symm⟩
      rw [qa3]
      exact ⟨_,by simp [pend]; rfl⟩
     rw [eb]
     dsimp only
     generalize power' n (2 * s1 + n1) (2 * s1 + n1 + n1 + m) n=pw
     refine wpS_bind (wpS_mono (wpS_forRange
      (I:=fun _ z st'=>∃ R' g',z=(none,())/\st'=SS κ (kvs kv (flat R' ++ (l ++ rest'))) (pend 0 R').toArray g'/\(flat R').Perm (flat R)/\Gd c R'/\R'≠[])
      (Q:=fun z st'=>∃ R' g',z=(none,())/\st'=SS κ (kvs kv (flat R' ++ (l ++ rest'))) (pend 0 R').toArray g'/\(flat R').Perm (flat R)/\Gd c R'/\R'≠[]) ?_ (fun _ _ z=>z) ⟨R,g,rfl,rfl,List.Perm.refl _,gd,hR⟩) ?_)
     ·rintro x z st' _ _ ⟨R',g',rfl,rfl,pr,gr,ne⟩
      refine wpS_bind (wpS_get ?_)
      have ep':pendingOf (SS κ (kvs kv (flat R' ++ (l ++ rest'))) (pend 0 R').toArray g')=(pend 0 R').toArray:=rfl
      rw [ep']
      have es:(pend 0 R').toArray.size=R'.length:=by rw [List.size_toArray,qa2]
      rw [es]
      by_cases e2:R'.length > 1
      ·rw [if_pos e2]
       obtain ⟨R1,⟨la,w1⟩,⟨lb,w2⟩,R2,rfl,hi⟩:=cut2 R' (R'.length - 2) (by omega)
       have:R2=[]:=List.length_eq_zero_iff.mp (by simp at hi; omega)
       subst this
       obtain ⟨b,eb2⟩:∃ b,(pend 0 (R1 ++ [(la,w1),(lb,w2)])).toArray[(R1 ++ [(la,w1),(lb,w2)]).length - 2]?=some b:=⟨_,getElem?_pos _ _ (by simp [qa2])⟩
       rw [eb2]
       obtain ⟨b1,b2,older⟩:=b
       dsimp only
       by_cases e3:older≤pw
       ·rw [if_pos e3]
        exact wpS_pure ⟨_,g',rfl,rfl,pr,gr,ne⟩
       ·rw [if_neg e3]
        have i1:=gr.right.up (la,w1) (by simp)
        have i2:=gr.right.up (lb,w2) (by simp)
        rw [<- hi]
        have ef:flat (R1 ++ [(la,w1),(lb,w2)]) ++ (l ++ rest')=flat R1 ++ la ++ lb ++ flat [] ++ (l ++ rest'):=by simp [flat]
        rw [ef]
        refine wpS_bind (qcT C (R2:=[]) (rest:=l ++ rest') ?_ i1.1 i2.1 i1.2 i2.2 fun l' g2 pl al=>?_)
        ·rw [<- ef]
         exact (List.Perm.append_right _ pr).trans pm'
        ·simp only [Bool.not_true,Bool.false_eq_true,if_false]
         refine wpS_pure ⟨R1 ++ [(l',w1)],g2,rfl,?_,?_,gr.left.app (Gd.one al (by have:=pl.length_eq; simp at this; have:=i1.2; simp at this; omega)),by simp⟩
         ·congr 1
          simp [flat]
         ·refine List.Perm.trans ?_ pr
          rw [qbS,qbS,qbR,qiR]
          refine List.Perm.append_left _ ?_
          simpa [flat] using pl
      ·rw [if_neg e2]
       exact wpS_pure ⟨_,g',rfl,rfl,pr,gr,ne⟩
     ·rintro z st' ⟨R',g',rfl,rfl,pr,gr,ne⟩
      dsimp only
      obtain ⟨R3,em,ef,gg⟩:=qiH 0 R' ne (fun x=>(x.fst,x.2.fst,pw)) pw (fun _ _ _=>rfl)
      refine wpS_bind (wpS_modify ?_)
      show wpS _ _ _ _ _ _ (SS κ (kvs kv (flat R' ++ (l ++ rest'))) ((pend 0 R').toArray.modify ((pend 0 R').toArray.size - 1) fun x=>(x.fst,x.2.fst,pw)) g')
      rw [em,<- ef]
      exact push R3 g' (by rw [ef]; exact pr) (gg c gr)
 case post =>
  rintro z st' ⟨R,g,rfl,rfl,pm,gd⟩
  dsimp only
  have hl:=pm.length_eq
  rw [List.length_range] at hl
  have hR:R≠[]:=fun z=>by subst z; simp [flat] at hl; omega
  refine wpS_bind (wpS_mono (wpS_forRange
   (I:=fun k z st'=>∃ R g,z=(none,())/\st'=SS κ (kvs kv (flat R)) (pend 0 R).toArray g/\(flat R).Perm (List.range n)/\Gd c R/\R≠[]/\(R.length≤1\/R.length + k≤n))
   (Q:=fun z st'=>∃ R g,z=(none,())/\st'=SS κ (kvs kv (flat R)) (pend 0 R).toArray g/\(flat R).Perm (List.range n)/\Gd c R/\R≠[]/\R.length≤1) ?_ ?_ ⟨R,g,rfl,rfl,pm,gd,hR,.inr (by have:=qjj gd; omega)⟩) ?_)
  ·rintro k z st' _ hk ⟨R,g,rfl,rfl,pm,gd,hR,hk2⟩
   refine wpS_bind (wpS_get ?_)
   have ep':pendingOf (SS κ (kvs kv (flat R)) (pend 0 R).toArray g)=(pend 0 R).toArray:=rfl
   rw [ep']
   have es:(pend 0 R).toArray.size=R.length:=by rw [List.size_toArray,qa2]
   rw [es]
   by_cases e1:R.length≤1
   ·rw [if_pos e1]
    exact wpS_pure ⟨R,g,rfl,rfl,pm,gd,hR,e1⟩
   ·rw [if_neg e1]
    refine wpS_bind (qkm (P:=fun i=>wpS _ _ _ _ (mergeAt' i) _ _) fun i hi0=>?_)
    have hi:i + 2≤R.length:=by omega
    obtain ⟨R1,⟨la,w1⟩,⟨lb,w2⟩,R2,rfl,hi2⟩:=cut2 R i hi
    have i1:=gd.right.up (la,w1) (by simp)
    have i2:=gd.right.up (lb,w2) (by simp)
    have ef:flat (R1 ++ (la,w1) :: (lb,w2) :: R2)=flat R1 ++ la ++ lb ++ flat R2 ++ []:=by simp [flat]
    rw [ef,<- hi2]
    refine (qcT C (rest:=[]) ?_ i1.1 i2.1 i1.2 i2.2 fun l' g2 pl al=>?_)
    ·rw [<- ef]; exact pm
    ·simp only [Bool.not_true,Bool.false_eq_true,if_false]
     have ef':flat (R1 ++ (l',w1) :: R2)=flat R1 ++ l' ++ flat R2 ++ []:=by simp [flat]
     refine wpS_pure ⟨R1 ++ (l',w1) :: R2,g2,rfl,?_,?_,?_,by simp,.inr ?_⟩
     ·rw [ef']
     ·refine List.Perm.trans ?_ pm
      rw [ef,ef']
      simp only [List.append_nil,List.append_assoc]
      refine List.Perm.append_left _ ?_
      rw [<- List.append_assoc]
      exact List.Perm.append_right _ pl
     ·refine gd.left.app ((Gd.one (x:=w1) al (by have:=pl.length_eq; simp at this; have:=i1.2; simp at this; omega)).app (R:=[(l',w1)]) (S:=R2) ⟨fun r hr=>gd.right.up r (by simp [hr])⟩)
     ·simp at hk2 e1 ⊢
      omega
  ·rintro z st' ⟨R,g,rfl,rfl,pm,gd,hR,hk2⟩
   exact ⟨R,g,rfl,rfl,pm,gd,hR,by omega⟩
  ·rintro z st' ⟨R,g,rfl,rfl,pm,gd,hR,h1⟩
   dsimp only
   obtain ⟨⟨l,x⟩,rfl⟩:∃ r,R=[r]:=by
    match R,hR,h1 with
    | [r],_,_=>exact ⟨r,rfl⟩
   rw [qbR] at pm ⊢
   exact wpS_pure (h l _ g pm (gd.up (l,x) (by simp)).1)
end
section
variable {prog:Program}{w:World}{A:Around}{E:Value->Shared->Prop}{s:Shared}
def Kept (a:Addr)(h h':Heap):Prop:=∀ b o,b≠a->h.get? b=some o->h'.get? b=some o
structure Asks (prog:Program)(w:World)(A:Around)(vs:List Value)(c:Nat->Nat->Bool)(κ:SortKind)(s:Shared):Prop where
 kind:∀ (E:Value->Shared->Prop) (Q:SortKind->Shared->Prop),Q κ s->wpAny (model prog w) A (keyKind' vs.toArray) Q E s
 less:∀ i j,In vs.length i j->∀ (Q:Bool->Shared->Prop),Q (c i j) s->wpAny (model prog w) A (keyLt' κ (vs.getD i Value.none) (vs.getD j Value.none)) Q (fun _ _=>False) s
abbrev qem (vs:List Value)(p:Array Nat):Array Value:=List.toArray (p.toList.map fun i=>vs.getD i Value.none)
theorem range_getD (vs:List Value):((List.range vs.length).map fun i=>vs.getD i Value.none)=vs:=by
 refine List.ext_getElem (by simp) fun i h1 h2=>?_
 simp at h1
 simp [h1]
theorem qik {vs:List Value}{c:Nat->Nat->Bool}(O:Ord c){κ:SortKind}(h2:2≤vs.length)
  (less:∀ i j,In vs.length i j->∀ (Q:Bool->Shared->Prop),Q (c i j) s->wpAny (model prog w) A (keyLt' κ (vs.getD i Value.none) (vs.getD j Value.none)) Q (fun _ _=>False) s) :
  wpAny (model prog w) A ((sortRuns').run (SortSt.mk' κ (vs.toArray.zip vs.toArray) #[] 7 none)) (fun r s'=>s'=s/\failedOf r.2=none/\∃ p,Of vs.length p/\Up c p vs.length/\(arrOf r.2).map (·.2)=qem vs p) E s:=by
 have C:Cmp prog w A E s c (fun i=>(vs.getD i Value.none,vs.getD i Value.none)) κ vs.length:=⟨O,fun x y hi st hk Q hQ=>by
  rw [lt'_eq]
  refine wpS_bind (wpS_get ?_)
  rw [hk]
  refine wpS_bind (wpS_lift (wpAny_attempt (wpAny_mono (less x y hi (fun b s'=>s'=s/\b=c x y) ⟨rfl,rfl⟩) (fun b s' z=>?_) fun _ _ z=>z.elim)))
  obtain ⟨rfl,rfl⟩:=z
  exact ⟨rfl,wpS_pure hQ⟩⟩
 have e0:vs.toArray.zip vs.toArray=kvs (fun i=>(vs.getD i Value.none,vs.getD i Value.none)) (List.range vs.length):=by
  apply Array.toList_inj.mp
  rw [Array.toList_zip]
  refine List.ext_getElem (by simp) fun i h1 h2=>?_
  simp at h1
  simp [h1]
 rw [e0]
 refine qh7 (Q:=fun _ st'=>failedOf st'=none/\∃ p,Of vs.length p/\Up c p vs.length/\(arrOf st').map (·.2)=qem vs p) C h2 fun l pd g pm as=>⟨rfl,l.toArray,qjg pm,fun i j hij hj=>?_,?_⟩
 ·have hl:=pm.length_eq
  rw [List.length_range] at hl
  rw [qcz (p:=l.toArray) (show i < l.length by omega),qcz (p:=l.toArray) (show j < l.length by omega)]
  exact qb3 O as hij (by omega)
 ·apply Array.toList_inj.mp
  show (Array.map (·.2) (kvs _ l)).toList=_
  rw [Array.toList_map]
  simp
theorem qeu {a:Addr}{vs:List Value}{n:Nat}{P:PySem.Fin->Shared->Prop}{c:Nat->Nat->Bool}(O:Ord c){κ:SortKind}(at0:s.heap.get? a=some (seqObj "list" vs.toArray n))(few:vs.length < 65536)
  (ak:2≤vs.length->∀ h':Heap,Kept a s.heap h'->Asks prog w A vs c κ { s with heap:=h' })
  (fin:∀ p:Array Nat,Of vs.length p->Up c p vs.length->P (.done (.ret .none)) { s with heap:=sortedHeap s.heap a vs (qem vs p) }):wpAny (model prog w) A (Builtin.«list.sort» ⟨[.ref a],[]⟩) P E s:=by
 rw [list_sort_plain]
 have la:a < s.heap.objs.size:=Heap.lt_size at0
 refine wpAny_bind (listItems_at at0 rfl (wpAny_bind (listUpdate_at at0 rfl ?_ (by rw [List.size_toArray,sizeLine_eq]; omega) (Nat.zero_le _))))
 obtain ⟨e1,at1⟩:∃ e1,(s.heap.update a (Obj.mapSeq fun _=>(#[]:Array Value))).get? a=some (seqObj "list" #[] e1):=⟨_,get?_update_seq at0 fun _=>#[]⟩
 refine wpAny_bind (seqEpoch_at at1 rfl (wpAny_bind (wpAny_newTuple (wpAny_bind (wpAny_newList (wpAny_holding ?_))) (by rw [sizeLine_eq]; simp; omega))))
 have at2:(((s.heap.update a (Obj.mapSeq fun _=>(#[]:Array Value))).push (seqObj "tuple" vs.toArray 0)).push (seqObj "list" #[] 0)).get? a=some (seqObj "list" #[] e1):=Heap.get?_push_of_some _ (Heap.get?_push_of_some _ at1)
 have kp:Kept a s.heap (((s.heap.update a (Obj.mapSeq fun _=>(#[]:Array Value))).push (seqObj "tuple" vs.toArray 0)).push (seqObj "list" #[] 0)):=fun b o nb e =>
  Heap.get?_push_of_some _ (Heap.get?_push_of_some _ ((Heap.get?_update_ne _ _ _ _ nb).trans e))
 show wpAny (model prog w) A _ P E { s with heap:=((s.heap.update a (Obj.mapSeq fun _=>(#[]:Array Value))).push (seqObj "tuple" vs.toArray 0)).push (seqObj "list" #[] 0) }
 dsimp only
 have zz:vs.toArray.size=vs.length:=by simp
 by_cases few2:vs.toArray.size < 2
 ·rw [if_pos few2,if_pos few2]
  refine wpAny_bind (wpAny_pure ?_)
  rw [StateT.run_pure]
  refine wpAny_bind (wpAny_pure (wpAny_bind (seqEpoch_at at2 rfl (wpAny_bind (listUpdate_at at2 rfl ?_ (by simp) (by show (Array.map _ (vs.toArray.zip vs.toArray)).size≤_; simp; rw [sizeLine_eq]; omega))))))
  simp only [bne_self_eq_false,Bool.false_eq_true,if_false]
  have eo:qem vs (List.toArray (List.range vs.length))=Array.map (·.2) (vs.toArray.zip vs.toArray):=by
   apply Array.toList_inj.mp
   show (List.range vs.length).map _=_
   rw [range_getD,Array.toList_map]
   simp only [Array.toList_zip]
   exact (List.map_snd_zip (Nat.le_refl _)).symm
  have:=fin (List.toArray (List.range vs.length)) (Array.Perm.refl _) (fun i j x y=>by
   have:i=j:=by omega
   subst this; exact O.irr _)
  rw [eo] at this
  exact wpAny_pure this
 ·rw [if_neg few2,if_neg few2]
  have K:=ak (by omega) _ kp
  refine wpAny_bind (K.kind _ _ ?_)
  refine wpAny_bind (wpAny_mono (qik O (by omega) K.less) ?_ fun _ _ e=>e)
  ·rintro ⟨⟨⟩,st'⟩ s' ⟨rfl,hf,p,o1,o2,eo⟩
   dsimp only
   refine wpAny_bind (seqEpoch_at at2 rfl (wpAny_bind (listUpdate_at at2 rfl ?_ (by simp) (by rw [eo]; show (qem vs p).size≤_; simp; rw [o1.size,sizeLine_eq]; omega))))
   rw [hf]
   simp only [bne_self_eq_false,Bool.false_eq_true,if_false]
   have:=fin p o1 o2
   rw [<- eo] at this
   exact wpAny_pure this
end
section
variable {prog:Program}{w:World}{A:Around}{E:Value->Shared->Prop}{s:Shared}
def Told (prog:Program)(w:World)(A:Around)(Q:Value->Shared->Prop)(vs:List Value)(s1:Shared):Prop :=
 vs.length < 65536/\∃ c κ,Ord c/\(2≤vs.length->∀ h':Heap,(∀ b o,s1.heap.get? b=some o->h'.get? b=some o)->Asks prog w A vs c κ { s1 with heap:=h' }) /\
  ∀ p e (h':Heap),Of vs.length p->Up c p vs.length->(∀ b o,s1.heap.get? b=some o->h'.get? b=some o)->h'.get? s1.heap.objs.size=some (seqObj "list" (qem vs p) e)->Q (.ref s1.heap.objs.size) { s1 with heap:=h' }
theorem qgO {x:Value}{Q:Value->Shared->Prop}(col:wpAny (model prog w) A.in1 (collect x) (Told prog w A.in1.in1 Q) E s):wpAny (model prog w) A (call (.builtin "sorted") [x]) Q E s:=by
 refine Calls.call_function_entry kind_sorted plain_sorted entry_sorted (args_sorted1 _) ?_
 unfold Builtin.«sorted»
 refine wpAny_bind (m:=checkCount "sorted" 1 1 _) (wpAny_pure (wpAny_bind (wpAny_mono col (fun vs s1 told=>?_) fun _ _ e=>e)))
 obtain ⟨few,c,κ,O,ak,fin⟩:=told
 refine wpAny_bind (wpAny_newList ?_ (by rw [sizeLine_eq]; omega))
 have at0:(s1.heap.push (seqObj "list" vs.toArray 0)).get? s1.heap.objs.size=some (seqObj "list" vs.toArray 0):=Heap.get?_push_size _ rfl
 refine wpAny_bind (wpAny_holding (wpAny_call_entry slot_list_sort ⟨_,at0,rfl⟩ entry_list_sort (qeu (s:={ s1 with heap:=s1.heap.push (seqObj "list" vs.toArray 0) }) O at0 few (fun h2 h' kp=>ak h2 h' fun b o e=>kp b o (Nat.ne_of_lt (Heap.lt_size e)) (Heap.get?_push_of_some _ e)) fun p o1 o2=>⟨_,rfl,wpAny_pure ⟨_,rfl,?_⟩⟩) (args_list_sort _)))
 obtain ⟨e,he⟩:=sortedHeap_at (out:=qem vs p) at0
 refine fin p e _ o1 o2 (fun b o q=>?_) he
 have lt:=Heap.lt_size q
 rw [sortedHeap_old (Nat.ne_of_lt lt) (by show b < (s1.heap.push _).objs.size; rw [size_push']; exact Nat.lt_succ_of_lt lt)]
 exact Heap.get?_push_of_some _ q
end
end Srt
namespace DI
open PySem PySem.W PyProof.Rows
def DEnt (h:Heap)(d:Addr)(es:Array DictEntry)(ep:Nat):Prop:=∃ o,h.get? d=some o/\o.ExactDict/\o.data = .dict es ep
theorem DEnt.ty {s:Shared}{d:Addr}{es:Array DictEntry}{ep:Nat}(x:DEnt s.heap d es ep):s.TypeIs (.ref d) "dict" := let ⟨o,e,c,_⟩:=x; ⟨o,e,c.1⟩
theorem DEnt.at {h h':Heap}{d:Addr}{es:Array DictEntry}{ep:Nat}(x:DEnt h d es ep)(k:∀ o,h.get? d=some o->h'.get? d=some o):DEnt h' d es ep:=let ⟨o,e,c⟩:=x; ⟨o,k o e,c⟩
section
variable {prog:Program}{w:World}{A:Around}{E:Value->Shared->Prop}{s:Shared}{it d:Addr}{es:Array DictEntry}{i ep:Nat}
theorem qiJ {Q:Option Value->Shared->Prop}(ki:s.heap.IsKeyIter it d i es.size ep)(de:DEnt s.heap d es ep)(li:i < es.size)
  (fin:∀ h',h'.IsKeyIter it d (i + 1) es.size ep->Heap.SameBut it s.heap h'->Q (some es[i].key) { s with heap:=h' }):wpAny (model prog w) A (pyNext (.ref it)) Q E s:=by
 obtain ⟨oi,gi,ci,fi⟩:=id ki
 obtain ⟨od,gd,xd,dd⟩:=de
 have ti:=ki.typeIs
 unfold pyNext
 refine wpAny_bind (wpAny_attempt (wpAny_callSpecial?_slot (name:=Str.ofString "__next__") ti F.slot_dict_keyiterator_next (wpAny_call_entry F.slot_dict_keyiterator_next ti F.entry_dict_keyiterator_next (wpAny_bind (wpAny_pure (wpAny_bind (wpAny_bind ?_)))) (F.args_dict_keyiterator_next_1 _))))
 refine wpAny_bind (wpAny_typeNameOfWhole_keyiter ti (wpAny_pure (wpAny_bind (wpAny_fieldsOf gi fi ?_))))
 simp only [show Builtin.Dict_items.ownsTuple "dict_keyiterator" = false by decide,Bool.false_eq_true,if_false]
 show wpAny _ _ (if (Value.ref d == Value.none)=true then _ else _) _ _ s
 rw [if_neg (show ¬ ((Value.ref d == Value.none)=true) from Bool.false_ne_true)]
 refine wpAny_bind (wpAny_pure (wpAny_bind (wpAny_dictEntries gd dd ?_)))
 rw [if_neg (by simp)]
 refine wpAny_bind (wpAny_pure (wpAny_bind (wpAny_dictEpoch gd dd ?_)))
 rw [if_neg (by simp)]
 refine wpAny_pure ?_
 simp only [show ¬ ((i:Int) < 0) from by omega,if_false,Int.toNat_natCast,Array.getElem?_eq_getElem li]
 refine wpAny_bind (wpAny_bind (wpAny_typeNameOfWhole_keyiter ti (wpAny_pure (wpAny_bind (wpAny_isOneOf_keyiter ti ?_)))))
 show wpAny _ _ (setField (.ref it) 1 (rawInt ((i:Int) + 1)) >>= _) _ _ s
 have nx:(s.heap.update it (Obj.mapFields (·.setIfInBounds 1 (rawInt ((i:Int) + 1))))).IsKeyIter it d (i + 1) es.size ep :=
  ⟨_,Heap.get?_update_self _ gi (Obj.isFreed_of_fields (Obj.data_mapFields fi _)),(Obj.cls_mapFields ..).trans ci,by rw [Obj.data_mapFields fi]; simp [rawInt]⟩
 have tn:Shared.TypeIs { s with heap:=s.heap.update it (Obj.mapFields (·.setIfInBounds 1 (rawInt ((i:Int) + 1)))) } (.ref it) "dict_keyiterator" := Heap.IsKeyIter.typeIs (s:={ s with heap:=s.heap.update it (Obj.mapFields (·.setIfInBounds 1 (rawInt ((i:Int) + 1)))) }) nx
 refine wpAny_bind (wpAny_setField gi fi (by simp) (wpAny_bind (wpAny_holding (wpAny_bind (wpAny_isOneOf_keyiter tn ?_)))))
 show wpAny _ _ (pure es[i].key) _ _ _
 exact wpAny_pure (wpAny_pure ⟨_,rfl,wpAny_pure (fin _ nx (Heap.SameBut.update ..))⟩)
theorem qkj {Q:Option Value->Shared->Prop}(hh:A.handled=none)(ki:s.heap.IsKeyIter it d i es.size ep)(de:DEnt s.heap d es ep)(li:es.size≤i)(fin:∀ h',Heap.ExtBut it s.heap h'->Q none { s with heap:=h' }) :
  wpAny (model prog w) A (pyNext (.ref it)) Q E s:=by
 obtain ⟨oi,gi,ci,fi⟩:=id ki
 obtain ⟨od,gd,xd,dd⟩:=de
 have ti:=ki.typeIs
 unfold pyNext
 refine wpAny_bind (wpAny_attempt (wpAny_callSpecial?_slot (name:=Str.ofString "__next__") ti F.slot_dict_keyiterator_next (wpAny_call_entry F.slot_dict_keyiterator_next ti F.entry_dict_keyiterator_next (wpAny_bind (wpAny_pure (wpAny_bind (wpAny_bind ?_)))) (F.args_dict_keyiterator_next_1 _))))
 refine wpAny_bind (wpAny_typeNameOfWhole_keyiter ti (wpAny_pure (wpAny_bind (wpAny_fieldsOf gi fi ?_))))
 simp only [show Builtin.Dict_items.ownsTuple "dict_keyiterator" = false by decide,Bool.false_eq_true,if_false]
 show wpAny _ _ (if (Value.ref d == Value.none)=true then _ else _) _ _ s
 rw [if_neg (show ¬ ((Value.ref d == Value.none)=true) from Bool.false_ne_true)]
 refine wpAny_bind (wpAny_pure (wpAny_bind (wpAny_dictEntries gd dd ?_)))
 rw [if_neg (by simp)]
 refine wpAny_bind (wpAny_pure (wpAny_bind (wpAny_dictEpoch gd dd ?_)))
 rw [if_neg (by simp)]
 refine wpAny_pure ?_
 simp only [show ¬ ((i:Int) < 0) from by omega,if_false,Int.toNat_natCast,Array.getElem?_eq_none li]
 refine wpAny_bind (wpAny_bind (wpAny_typeNameOfWhole_keyiter ti (wpAny_pure ?_)))
 show wpAny _ _ (setField (.ref it) 0 .none >>= _) _ _ s
 refine wpAny_bind (wpAny_setField gi fi (by simp) ?_)
 show wpAny _ _ (newExc (.type "StopIteration") [] >>= _) _ _ _
 refine wpAny_bind ?_
 simp only [newExc,newTuple]
 refine wpAny_bind (wpAny_newObj_type (wpAny_bind (m:=firstArgMember _ _) (wpAny_of_eq (a:=Value.none) (by first | rfl | (simp only [firstArgMember]; rfl)) (wpAny_newObj_type ?_ (by size_fits)))) (by size_fits))
 simp only [raiseNew]
 refine wpAny_bind (wpAny_handled ?_)
 rw [show A.in1.handled=none from hh]
 refine wpAny_bind (wpAny_pure (wpAny_throw ?_))
 refine wpAny_bind (wpAny_isInstance (T := "StopIteration") (b:=true) ⟨_,Heap.get?_push_size _ rfl,rfl⟩ isSubtype_stop (wpAny_pure (fin _ ?_)))
 exact ((Heap.SameBut.update ..).extBut.push _).push _
theorem qiK {Q:Value->Shared->Prop}(hd:(d == sysModules)=false)(de:DEnt s.heap d es ep)(fin:Q (.ref s.heap.objs.size) { s with heap:=s.heap.push { cls := .type "dict_keyiterator",data := .fields #[.ref d,.int 0 0,.int es.size 0,.int ep 0] } }):wpAny (model prog w) A (pyIter (.ref d)) Q E s:=by
 have td:=de.ty
 obtain ⟨od,gd,xd,dd⟩:=id de
 refine wpAny_pyIter_slot td F.slot_dict_iter (wpAny_call_entry F.slot_dict_iter td F.entry_dict_iter ?_ (F.args_dict_iter_1 _))
 unfold Builtin.«dict.__iter__» Builtin.Dict.dictSlotNone
 refine wpAny_bind (wpAny_bind (wpAny_notOrdered_dict td ?_))
 show wpAny _ _ (pure (Value.ref d)) _ _ s
 refine wpAny_pure ?_
 show wpAny _ _ (Builtin.Dict.showsAll d >>= _) _ _ s
 unfold Builtin.Dict.showsAll
 rw [if_neg (by rw [hd]; exact Bool.false_ne_true)]
 refine wpAny_bind (wpAny_pure (wpAny_bind (wpAny_dictEntries gd dd (wpAny_bind (wpAny_dictEpoch gd dd ?_)))))
 exact wpAny_bind (wpAny_newObj_type (wpAny_pure ⟨_,rfl, "dict_keyiterator",_,⟨_,Heap.get?_push_size _ rfl,rfl⟩,F.slot_dict_keyiterator_next.lookup,by simpa [rawInt] using fin⟩))
theorem qeU (hd:(d == sysModules)=false):MeetsIn prog w (Builtin.«dict.values» ⟨[.ref d],[]⟩) (fun _ R s=>(∃ es ep,DEnt s.heap d es ep)/\R (.ok (.ret (.ref s.heap.objs.size))) { s with heap:=s.heap.push { cls := .type "dict_values",data := .fields #[.ref d] } }) :=
 .of_wp fun A R s ⟨⟨es,ep,de⟩,h⟩=>by
  refine wpAny_bind (β:=PySem.Fin) (α:=Addr) ?_
  unfold Builtin.Dict.noArgs
  refine wpAny_bind (wpAny_notOrdered_dict de.ty ?_)
  show wpAny _ _ (pure d) _ _ s
  refine wpAny_pure ?_
  show wpAny _ _ (Builtin.Dict.showsAll d >>= _) _ _ s
  unfold Builtin.Dict.showsAll
  rw [if_neg (by rw [hd]; exact Bool.false_ne_true)]
  exact wpAny_bind (wpAny_pure (wpAny_bind (wpAny_newObj_type (wpAny_pure ⟨_,rfl,h⟩))))
theorem qia {v:Addr}{Q:Value->Shared->Prop}(vw:s.heap.IsValuesView v d)(de:DEnt s.heap d es ep)(fin:Q (.ref s.heap.objs.size) { s with heap:=s.heap.push { cls := .type "dict_valueiterator",data := .fields #[.ref d,.int 0 0,.int es.size 0,.int ep 0] } }):wpAny (model prog w) A (pyIter (.ref v)) Q E s:=by
 obtain ⟨ov,gv,cv,fv⟩:=id vw
 obtain ⟨od,gd,xd,dd⟩:=id de
 refine wpAny_pyIter_slot vw.typeIs F.slot_dict_values_iter (wpAny_call_entry F.slot_dict_values_iter vw.typeIs F.entry_dict_values_iter ?_ (F.args_dict_values_iter_1 _))
 unfold Builtin.«dict_values.__iter__» Builtin.Dict_items.dictOf Builtin.Dict_items.newIterator
 refine wpAny_bind (wpAny_pure (wpAny_bind (wpAny_bind (wpAny_field gv fv (x := .ref d) rfl (wpAny_pure (wpAny_bind (wpAny_bind (wpAny_dictEntries gd dd (wpAny_bind (wpAny_dictEpoch gd dd ?_))))))))))
 simp only [show Builtin.Dict_items.ownsTuple "dict_valueiterator" = false by decide,Bool.false_eq_true,if_false]
 exact wpAny_newObj_type (wpAny_pure ⟨_,rfl, "dict_valueiterator",_,⟨_,Heap.get?_push_size _ rfl,rfl⟩,F.slot_dict_valueiterator_next.lookup,by simpa [rawInt] using fin⟩)
theorem qh9 {Q:Option Value->Shared->Prop}(ki:s.heap.IsValIter it d i es.size ep)(de:DEnt s.heap d es ep)(li:i < es.size)
  (fin:∀ h',h'.IsValIter it d (i + 1) es.size ep->Heap.SameBut it s.heap h'->Q (some es[i].val) { s with heap:=h' }):wpAny (model prog w) A (pyNext (.ref it)) Q E s:=by
 obtain ⟨oi,gi,ci,fi⟩:=id ki
 obtain ⟨od,gd,xd,dd⟩:=de
 have ti:=ki.typeIs
 unfold pyNext
 refine wpAny_bind (wpAny_attempt (wpAny_callSpecial?_slot (name:=Str.ofString "__next__") ti F.slot_dict_valueiterator_next (wpAny_call_entry F.slot_dict_valueiterator_next ti F.entry_dict_valueiterator_next (wpAny_bind (wpAny_pure (wpAny_bind (wpAny_bind ?_)))) (F.args_dict_valueiterator_next_1 _))))
 refine wpAny_bind (wpAny_typeNameOfWhole_valiter ti (wpAny_pure (wpAny_bind (wpAny_fieldsOf gi fi ?_))))
 simp only [show Builtin.Dict_items.ownsTuple "dict_valueiterator" = false by decide,Bool.false_eq_true,if_false]
 show wpAny _ _ (if (Value.ref d == Value.none)=true then _ else _) _ _ s
 rw [if_neg (show ¬ ((Value.ref d == Value.none)=true) from Bool.false_ne_true)]
 refine wpAny_bind (wpAny_pure (wpAny_bind (wpAny_dictEntries gd dd ?_)))
 rw [if_neg (by simp)]
 refine wpAny_bind (wpAny_pure (wpAny_bind (wpAny_dictEpoch gd dd ?_)))
 rw [if_neg (by simp)]
 refine wpAny_pure ?_
 simp only [show ¬ ((i:Int) < 0) from by omega,if_false,Int.toNat_natCast,Array.getElem?_eq_getElem li]
 refine wpAny_bind (wpAny_bind (wpAny_typeNameOfWhole_valiter ti (wpAny_pure (wpAny_bind (wpAny_isOneOf_valiter ti ?_)))))
 show wpAny _ _ (setField (.ref it) 1 (rawInt ((i:Int) + 1)) >>= _) _ _ s
 have nx:(s.heap.update it (Obj.mapFields (·.setIfInBounds 1 (rawInt ((i:Int) + 1))))).IsValIter it d (i + 1) es.size ep :=
  ⟨_,Heap.get?_update_self _ gi (Obj.isFreed_of_fields (Obj.data_mapFields fi _)),(Obj.cls_mapFields ..).trans ci,by rw [Obj.data_mapFields fi]; simp [rawInt]⟩
 have tn:Shared.TypeIs { s with heap:=s.heap.update it (Obj.mapFields (·.setIfInBounds 1 (rawInt ((i:Int) + 1)))) } (.ref it) "dict_valueiterator" := Heap.IsValIter.typeIs (s:={ s with heap:=s.heap.update it (Obj.mapFields (·.setIfInBounds 1 (rawInt ((i:Int) + 1)))) }) nx
 refine wpAny_bind (wpAny_setField gi fi (by simp) (wpAny_bind (wpAny_holding (wpAny_bind (wpAny_isOneOf_valiter tn ?_)))))
 refine wpAny_bind (wpAny_isOneOf_valiter tn ?_)
 show wpAny _ _ (pure es[i].val) _ _ _
 exact wpAny_pure (wpAny_pure ⟨_,rfl,wpAny_pure (fin _ nx (Heap.SameBut.update ..))⟩)
theorem qjv {Q:Option Value->Shared->Prop}(hh:A.handled=none)(ki:s.heap.IsValIter it d i es.size ep)(de:DEnt s.heap d es ep)(li:es.size≤i)(fin:∀ h',Heap.ExtBut it s.heap h'->Q none { s with heap:=h' }) :
  wpAny (model prog w) A (pyNext (.ref it)) Q E s:=by
 obtain ⟨oi,gi,ci,fi⟩:=id ki
 obtain ⟨od,gd,xd,dd⟩:=de
 have ti:=ki.typeIs
 unfold pyNext
 refine wpAny_bind (wpAny_attempt (wpAny_callSpecial?_slot (name:=Str.ofString "__next__") ti F.slot_dict_valueiterator_next (wpAny_call_entry F.slot_dict_valueiterator_next ti F.entry_dict_valueiterator_next (wpAny_bind (wpAny_pure (wpAny_bind (wpAny_bind ?_)))) (F.args_dict_valueiterator_next_1 _))))
 refine wpAny_bind (wpAny_typeNameOfWhole_valiter ti (wpAny_pure (wpAny_bind (wpAny_fieldsOf gi fi ?_))))
 simp only [show Builtin.Dict_items.ownsTuple "dict_valueiterator" = false by decide,Bool.false_eq_true,if_false]
 show wpAny _ _ (if (Value.ref d == Value.none)=true then _ else _) _ _ s
 rw [if_neg (show ¬ ((Value.ref d == Value.none)=true) from Bool.false_ne_true)]
 refine wpAny_bind (wpAny_pure (wpAny_bind (wpAny_dictEntries gd dd ?_)))
 rw [if_neg (by simp)]
 refine wpAny_bind (wpAny_pure (wpAny_bind (wpAny_dictEpoch gd dd ?_)))
 rw [if_neg (by simp)]
 refine wpAny_pure ?_
 simp only [show ¬ ((i:Int) < 0) from by omega,if_false,Int.toNat_natCast,Array.getElem?_eq_none li]
 refine wpAny_bind (wpAny_bind (wpAny_typeNameOfWhole_valiter ti (wpAny_pure ?_)))
 show wpAny _ _ (setField (.ref it) 0 .none >>= _) _ _ s
 refine wpAny_bind (wpAny_setField gi fi (by simp) ?_)
 show wpAny _ _ (newExc (.type "StopIteration") [] >>= _) _ _ _
 refine wpAny_bind ?_
 simp only [newExc,newTuple]
 refine wpAny_bind (wpAny_newObj_type (wpAny_bind (m:=firstArgMember _ _) (wpAny_of_eq (a:=Value.none) (by first | rfl | (simp only [firstArgMember]; rfl)) (wpAny_newObj_type ?_ (by size_fits)))) (by size_fits))
 simp only [raiseNew]
 refine wpAny_bind (wpAny_handled ?_)
 rw [show A.in1.handled=none from hh]
 refine wpAny_bind (wpAny_pure (wpAny_throw ?_))
 refine wpAny_bind (wpAny_isInstance (T := "StopIteration") (b:=true) ⟨_,Heap.get?_push_size _ rfl,rfl⟩ isSubtype_stop (wpAny_pure (fin _ ?_)))
 exact ((Heap.SameBut.update ..).extBut.push _).push _
end
section
variable {prog:Program}{w:World}{A:Around}{d r:Addr}{es:Array DictEntry}{ep:Nat}
def qlW (es:Array DictEntry)(i:Nat)(v:Value):Prop:=∃ e,es[i]?=some e/\v=e.key
def IsVal (es:Array DictEntry)(i:Nat)(v:Value):Prop:=∃ e,es[i]?=some e/\v=e.val
theorem qgw (hh:A.handled=none)(I d:Addr)(hne:d≠I)(es:Array DictEntry)(ep:Nat):Walks prog w A I [I,d] [I] es.size (qlW es) (fun i h=>h.IsKeyIter I d i es.size ep/\DEnt h d es ep) where
 sub:=by simp
 frame:=fun i h h' st k=>⟨st.1.at fun o e=>k I (by simp) o e,st.2.at fun o e=>k d (by simp) o e⟩
 item:=fun i s Q E hi st hQ=>qiJ st.1 st.2 hi fun h' k' sb=>hQ _ h' s.toks ⟨_,Array.getElem?_eq_getElem hi,rfl⟩ ⟨k',st.2.at fun o e=>(sb.2 d hne).trans e⟩ fun b o hb e=>(sb.2 b (by simpa using hb)).trans e
 done:=fun s Q E st hQ=>qkj hh st.1 st.2 (Nat.le_refl _) fun h' eb=>hQ h' s.toks fun b o hb e=>eb b o (by simpa using hb) e
 self:=fun i s Q E st h=>wpAny_pyIter_keyiter st.1 h
theorem qgv (hh:A.handled=none)(I d:Addr)(hne:d≠I)(es:Array DictEntry)(ep:Nat):Walks prog w A I [I,d] [I] es.size (IsVal es) (fun i h=>h.IsValIter I d i es.size ep/\DEnt h d es ep) where
 sub:=by simp
 frame:=fun i h h' st k=>⟨st.1.at fun o e=>k I (by simp) o e,st.2.at fun o e=>k d (by simp) o e⟩
 item:=fun i s Q E hi st hQ=>qh9 st.1 st.2 hi fun h' k' sb=>hQ _ h' s.toks ⟨_,Array.getElem?_eq_getElem hi,rfl⟩ ⟨k',st.2.at fun o e=>(sb.2 d hne).trans e⟩ fun b o hb e=>(sb.2 b (by simpa using hb)).trans e
 done:=fun s Q E st hQ=>qjv hh st.1 st.2 (Nat.le_refl _) fun h' eb=>hQ h' s.toks fun b o hb e=>eb b o (by simpa using hb) e
 self:=fun i s Q E st h=>wpAny_pyIter_valiter st.1 h
theorem DEnt.lt {h:Heap}(x:DEnt h d es ep):d < h.objs.size:=let ⟨_,e,_⟩:=x; Heap.lt_size e
theorem qih (lo:(d == sysModules)=false):KdlSrc prog w "dict" d d es.size (qlW es) (fun h=>DEnt h d es ep) where
 type:=fun _ x=>x.ty
 there:=fun _ x=>⟨x.lt,x.lt⟩
 keep:=fun _ _ x k=>x.at fun o e=>k d (.inl rfl) o e
 notList:=by decide
 notTuple:=by decide
 hint:=fun _ _ _ _ x q=>kdl_hint_dict x.ty q
 iter:=fun _ _ hh x=>⟨_,_,(fun _ _ q=>qiK lo x q),qgw hh _ d (Nat.ne_of_lt x.lt) es ep,⟨⟨_,Heap.get?_push_size _ rfl,rfl,rfl⟩,x.at fun o e=>Heap.get?_push_of_some _ e⟩⟩
theorem qfp {T:String}{n:Nat}{P:Nat->Value->Prop}{OK:Heap->Prop}{E:Value->Shared->Prop}{s:Shared}{Q:List Value->Shared->Prop}(K:KdlSrc prog w T r d n P OK)(hh:A.handled=none)(ok:OK s.heap)(few:n≤sizeLine)
  (fin:∀ h' tk (vs:List Value),(∀ b o,s.heap.get? b=some o->h'.get? b=some o)->vs.length=n->(∀ j v,vs[j]?=some v->P j v)->Q vs { s with heap:=h',toks:=tk }):wpAny (model prog w) A (collect (.ref r)) Q E s:=by
 unfold collect
 refine wpAny_bind (wpAny_runValue (codeAny_builtin PySem.F.entry_proto_collect ?_))
 rw [Around.under_plainId PySem.F.plain_proto_collect _]
 show wpAny _ A.in1 (newList [] >>= fun l=>again (.builtin "list.__iadd__" ⟨[l,.ref r],[]⟩)) _ _ s
 refine wpAny_bind (wpAny_newObj_type (wpAny_pure ⟨plainId_quiet PySem.F.plain_list_iadd _,codeAny_builtin PySem.F.entry_list_iadd ?_⟩))
 rw [Around.under_plainId PySem.F.plain_list_iadd _]
 have th:=K.there _ ok
 show wpAny _ A.in1 (Builtin.List.listExtendWith (.ref s.heap.objs.size) (.ref r) (.ref s.heap.objs.size)) _ _ _
 refine kdl_extend (A:=A) (R:=fun (x:Result) s'=>match x with
  | .ok (.ret v)=>wpAny (model prog w) A (match v with
   | .ref a=>do
    let o <- load a
    match o.data with
    | .seq xs _=>pure xs.toList
    | _=>unsupported "internal:collect"
   | _=>unsupported "internal:collect") Q E s'
  | .ok _=>False
  | .error e=>E e s') (s:={ s with heap:=s.heap.push { cls := .type "list",data := .seq #[] } }) K hh (K.keep _ _ ok fun b _ o e=>Heap.get?_push_of_some _ e) s.heap.objs.size (Nat.ne_of_gt th.1) (Nat.ne_of_gt th.2) _ 0 (Heap.get?_push_size _ rfl) (fun h' tk acc c k hS it=>?_) few
 show wpAny _ A (load s.heap.objs.size >>= _) _ _ { s with heap:=h',toks:=tk }
 refine wpAny_bind (wpAny_load hS (wpAny_pure ?_))
 exact fin h' tk acc.toList (fun b o e=>k b o (Nat.ne_of_lt (Heap.lt_size e)) (Heap.get?_push_of_some _ e)) (by rw [Array.length_toList]; exact it.1) fun j v e=>it.2 j v (by rw [<- Array.getElem?_toList]; exact e)
end
end DI
namespace L2
open PySem PySem.W PySem.Spec PyProof.Rows DI
def EntT (H:Hp)(kvs:List (List Key × V))(es:Array DictEntry):Prop :=
 Paired (fun (p:List Key × V) (e:DictEntry)=>∃ b,e.key = .ref b/\H b=some (.tup (p.1.map kV))/\RelV p.2 e.val) kvs es.toList
theorem EntT.size {H:Hp}{kvs:List (List Key × V)}{es:Array DictEntry}(h:EntT H kvs es):es.size=kvs.length:=by have:=Paired.length h; simpa using this.symm
theorem EntT.at {H:Hp}{kvs:List (List Key × V)}{es:Array DictEntry}(h:EntT H kvs es){i:Nat}{e:DictEntry}(q:es[i]?=some e):∃ kv b,kvs[i]?=some kv/\e.key = .ref b/\H b=some (.tup (kv.1.map kV))/\RelV kv.2 e.val:=by
 have:∀ {l:List (List Key × V)} {m:List DictEntry},Paired (fun (p:List Key × V) (e:DictEntry)=>∃ b,e.key = .ref b/\H b=some (.tup (p.1.map kV))/\RelV p.2 e.val) l m->∀ {i:Nat} {e},m[i]?=some e->∃ kv b,l[i]?=some kv/\e.key = .ref b/\H b=some (.tup (kv.1.map kV))/\RelV kv.2 e.val:=by
  intro l m r
  induction r with
  | nil=>intro i e q; simp at q
  | @cons p q ps qs hq t ih =>
   intro i e z
   cases i with
   | zero=>simp at z; subst z; obtain ⟨b,h1,h2,h3⟩:=hq; exact ⟨p,b,rfl,h1,h2,h3⟩
   | succ i=>simpa using ih (by simpa using z)
 exact this h (by rw [Array.getElem?_toList]; exact q)
theorem Inv.entT {X:Cx}{pins:List (Addr × Obj)}{σ:St}{H:Hp}{s:Shared}{d:Addr}{kvs:List (List Key × V)}(I:Inv X pins σ H s)(h:Rd H d (.dT kvs)):(d == sysModules)=false/\kvs.length≤sizeLine/\(kvs.map (·.1)).Nodup/\∃ es ep,DEnt s.heap d es ep/\EntT H kvs es:=by
 obtain ⟨z,y,xs,r,o,es,ep,h1,h2,h3,h4,h5⟩:=(show qaV X.prog X.w H s.heap d (.dT kvs) from qjI I.hok h)
 have ek:kvs.map (·.1)=xs.map (·.1):=by
  clear h4 h5 z h
  induction r with
  | nil=>rfl
  | @cons p q ps qs hq t ih=>rw [List.map_cons,List.map_cons,hq.1,ih]
 refine ⟨y,z,by rw [ek]; exact h5,es,ep,⟨o,h1,h2,h3⟩,?_⟩
 unfold EntT
 rw [h4]
 clear h4 h5 ek z h
 induction r with
 | nil=>exact .nil
 | @cons p q ps qs hq t ih=>exact .cons ⟨q.2.1,rfl,hq.2.1,hq.2.2⟩ ih
end L2
namespace Srt
open PySem PySem.W PySem.Spec PyProof.Rows L2
def lexI:List Int->List Int->Bool
 | [],[]=>false
 | [],_ :: _=>true
 | _ :: _,[]=>false
 | a :: as,b :: bs=>if a=b then lexI as bs else decide (a < b)
theorem qdd:∀ a b,lexI a b=true->lexI b a=false
 | [],[],h=>by simp [lexI] at h
 | [],_ :: _,_=>rfl
 | _ :: _,[],h=>by simp [lexI] at h
 | a :: as,b :: bs,h=>by
  unfold lexI at h ⊢
  by_cases e:a=b
  ·rw [if_pos e] at h; rw [if_pos e.symm]; exact qdd as bs h
  ·rw [if_neg e] at h; rw [if_neg (Ne.symm e)]
   simp at h ⊢; omega
theorem qfc:∀ a b c,lexI b a=false->lexI c b=false->lexI c a=false
 | [],[],c,_,h=>h
 | [],b :: bs,[],_,_=>rfl
 | [],b :: bs,c :: cs,_,_=>rfl
 | a :: as,[],c,h,_=>by simp [lexI] at h
 | a :: as,b :: bs,[],_,h=>by simp [lexI] at h
 | a :: as,b :: bs,c :: cs,h1,h2=>by
  unfold lexI at h1 h2 ⊢
  by_cases e1:b=a <;> by_cases e2:c=b
  ·rw [if_pos e1] at h1; rw [if_pos e2] at h2; rw [if_pos (e2.trans e1)]; exact qfc as bs cs h1 h2
  ·rw [if_pos e1] at h1; rw [if_neg e2] at h2; rw [if_neg (fun z=>e2 (z.trans e1.symm))]; rw [<- e1]; exact h2
  ·rw [if_neg e1] at h1; rw [if_pos e2] at h2; rw [if_neg (fun z=>e1 (e2.symm.trans z))]; rw [e2]; exact h1
  ·rw [if_neg e1] at h1; rw [if_neg e2] at h2
   simp at h1 h2
   rw [if_neg (by omega)]; simp; omega
theorem qdZ:∀ a b,lexI a b=false->lexI b a=false->a=b
 | [],[],_,_=>rfl
 | [],_ :: _,h,_=>by simp [lexI] at h
 | _ :: _,[],_,h=>by simp [lexI] at h
 | a :: as,b :: bs,h1,h2=>by
  unfold lexI at h1 h2
  by_cases e:a=b
  ·subst e; rw [if_pos rfl] at h1 h2; rw [qdZ as bs h1 h2]
  ·rw [if_neg e] at h1; rw [if_neg (Ne.symm e)] at h2
   simp at h1 h2; omega
theorem ordI (ks:Nat->List Int):Ord fun i j=>lexI (ks i) (ks j):=⟨fun i j h=>qdd _ _ h,fun i j k h1 h2=>qfc _ _ _ h1 h2⟩
def TupI (h:Heap)(b:Addr)(ks:List Int):Prop:=∃ o items n,h.get? b=some o/\o.cls = .type "tuple" /\ o.data = .seq items n/\IntsAre items.toList ks
theorem TupI.at {h h':Heap}{b:Addr}{ks:List Int}(x:TupI h b ks)(k:∀ o,h.get? b=some o->h'.get? b=some o):TupI h' b ks:=let ⟨o,i,n,e,r⟩:=x; ⟨o,i,n,k o e,r⟩
theorem TupI.isTuple {h:Heap}{b:Addr}{ks:List Int}(x:TupI h b ks):∃ items:Array Value,h.IsTuple b items/\IntsAre items.toList ks:=let ⟨o,i,n,e,c,d,r⟩:=x; ⟨i,⟨o,e,c,n,d⟩,r⟩
section
variable {prog:Program}{w:World}{A:Around}{E:Value->Shared->Prop}{s:Shared}
theorem qfM {Q:Bool->Shared->Prop}:∀ {xs ys:List Value} {as bs:List Int} (i:Nat),IntsAre xs as->IntsAre ys bs->Q (lexI as bs) s->KatLex prog w A true (decide (xs.length < ys.length)) Q (xs.zip ys) i s
 | _,_,_,_,i,.nil,.nil,h=>h
 | _,_,_,_,i,.nil,.cons _ _ _,h=>by simpa [lexI,KatLex] using h
 | _,_,_,_,i,.cons _ _ _,.nil,h=>by simpa [lexI,KatLex] using h
 | _,_,_,_,i,.cons (vs:=xs) (ns:=as) a t ra,.cons (vs:=ys) (ns:=bs) b u rb,h=>by
  rw [List.zip_cons_cons]
  refine kat_cons ((SeqAt.EqAt.int_int a t b u) prog w _ _ (kat_go (fun e=>kat_yes ?_) fun e=>kat_no ?_))
  ·have e':a=b:=by simpa using e
   subst e'
   have:=qfM (Q:=Q) (xs:=xs) (ys:=ys) (as:=as) (bs:=bs) (i + 1) ra rb (by unfold lexI at h; rw [if_pos rfl] at h; exact h)
   simpa using this
  ·have e':a≠b:=by simpa using e
   have h':Q (decide (a < b)) s:=by unfold lexI at h; rw [if_neg e'] at h; exact h
   cases i with
   | zero=>exact oneLt_int h'
   | succ i=>exact kat_one _ _ (lt_int h')
theorem qhm {x y:Addr}{as bs:List Int}{Q:Bool->Shared->Prop}(hx:TupI s.heap x as)(hy:TupI s.heap y bs)(h:Q (lexI as bs) s):wpAny (model prog w) A (keyLt' (tuples' true) (.ref x) (.ref y)) Q E s:=by
 obtain ⟨ox,xs,n,e1,c1,d1,r1⟩:=hx
 obtain ⟨oy,ys,m,e2,c2,d2,r2⟩:=hy
 refine kat_lt e1 d1 e2 d2 ?_
 have:=qfM (prog:=prog) (w:=w) (A:=A) 0 r1 r2 h
 simpa using this
theorem qdY {as bs:List Int}{i:Nat}(h1:min as.length bs.length≤i)(h2:i≤min as.length bs.length):lexI (as.drop i) (bs.drop i)=decide (as.length < bs.length):=by
 rcases Nat.lt_or_ge i as.length with a1 | a1
 ·rw [List.drop_of_length_le (l:=bs) (by omega),List.drop_eq_getElem_cons a1]
  show false=_
  simp; omega
 ·rw [List.drop_of_length_le a1]
  rcases Nat.lt_or_ge i bs.length with b1 | b1
  ·rw [List.drop_eq_getElem_cons b1]
   show true=_
   simp; omega
  ·rw [List.drop_of_length_le b1]
   show false=_
   simp; omega
open PySem.SeqAt in
theorem qjJ {x y:Addr}{as bs:List Int}(hx:TupI s.heap x as)(hy:TupI s.heap y bs)(hu:A.units < cLine):qdG A s (.ref x) (.ref y) (lexI as bs):=by
 obtain ⟨xs,t1,r1⟩:=hx.isTuple
 obtain ⟨ys,t2,r2⟩:=hy.isTuple
 have l1:=IntsAre.length r1
 have l2:=IntsAre.length r2
 have lx:xs.size=as.length:=by simpa using l1
 have ly:ys.size=bs.length:=by simpa using l2
 have atI:∀ {vs:List Value} {ns:List Int},IntsAre vs ns->∀ {j:Nat} (h1:j < vs.length) (h2:j < ns.length),∃ t,vs[j] = .int ns[j] t:=by
  intro vs ns r
  induction r with
  | nil=>intro j h1; simp at h1
  | cons n t q ih =>
   intro j h1 h2
   cases j with
   | zero=>exact ⟨t,rfl⟩
   | succ j=>simpa using ih (by simpa using h1) (by simpa using h2)
 have key:=qdG.tuples (e:=fun i=>as[i]? == bs[i]?) (f:=fun i=>decide (as.getD i 0 < bs.getD i 0)) (res:=fun i=>if i < min as.length bs.length then lexI (as.drop i) (bs.drop i) else decide (as.length < bs.length)) t1 t2 hu (fun i hi e=>?_) (fun i hi e=>?_) (fun i hi=>?_) (fun j h1 h2=>?_) (fun j h1 h2 e=>?_)
 ·by_cases z:0 < min as.length bs.length
  ·rw [if_pos z] at key; simpa using key
  ·rw [if_neg z,<- qdY (as:=as) (bs:=bs) (i:=0) (by omega) (by omega)] at key; simpa using key
 ·have a1:i < as.length:=by omega
  have b1:i < bs.length:=by omega
  have e':as[i]=bs[i]:=by simpa [a1,b1] using e
  have h1:lexI (as.drop i) (bs.drop i)=lexI (as.drop (i + 1)) (bs.drop (i + 1)):=by
   rw [List.drop_eq_getElem_cons a1,List.drop_eq_getElem_cons b1]
   conv=>lhs; unfold lexI
   rw [if_pos e']
  rw [if_pos (by omega),h1]
  by_cases z:i + 1 < min as.length bs.length
  ·rw [if_pos z]
  ·rw [if_neg z,qdY (by omega) (by omega)]
 ·have a1:i < as.length:=by omega
  have b1:i < bs.length:=by omega
  have e':as[i]≠bs[i]:=by simpa [a1,b1] using e
  rw [if_pos (by omega),List.drop_eq_getElem_cons a1,List.drop_eq_getElem_cons b1]
  unfold lexI
  rw [if_neg e']
  simp [a1,b1]
 ·rw [if_neg (by omega),lx,ly]
 ·have a1:j < as.length:=by omega
  have b1:j < bs.length:=by omega
  obtain ⟨t,q1⟩:=atI r1 (j:=j) (by simpa using h1) a1
  obtain ⟨u,q2⟩:=atI r2 (j:=j) (by simpa using h2) b1
  have q1':xs[j] = .int as[j] t:=by simpa using q1
  have q2':ys[j] = .int bs[j] u:=by simpa using q2
  rw [q1',q2']
  have:=EqAt.int_int (A:=A.in1) (s:=s) as[j] t bs[j] u
  simpa [a1,b1] using this
 ·have a1:j < as.length:=by omega
  have b1:j < bs.length:=by omega
  obtain ⟨t,q1⟩:=atI r1 (j:=j) (by simpa using h1) a1
  obtain ⟨u,q2⟩:=atI r2 (j:=j) (by simpa using h2) b1
  have q1':xs[j] = .int as[j] t:=by simpa using q1
  have q2':ys[j] = .int bs[j] u:=by simpa using q2
  rw [q1',q2']
  intro prog w E Q h
  have h':Q (.bool (decide (as[j] < bs[j]))) s:=by simpa [a1,b1] using h
  exact lt_int h'
end
end Srt
namespace L2
open PySem PySem.W PySem.Spec PyProof.Rows DI Srt
theorem qel {α β:Type}{F:α->β->Prop}:∀ {xs:List α} {ys:List β},xs.length=ys.length->(∀ (j:Nat) x y,xs[j]?=some x->ys[j]?=some y->F x y)->Paired F xs ys
 | [],[],_,_ => .nil
 | x :: xs,y :: ys,hl,h => .cons (h 0 x y rfl rfl) (qel (by simpa using hl) fun j a b p q=>h (j + 1) a b (by simpa using p) (by simpa using q))
 | [],_ :: _,hl,_=>by simp at hl
 | _ :: _,[],hl,_=>by simp at hl
theorem qan {α β:Type}{F:α->β->Prop}{xs:List α}{ys:List β}(h:Paired F xs ys):∀ {j:Nat} {x:α},xs[j]?=some x->∃ y,ys[j]?=some y/\F x y:=by
 induction h with
 | nil=>intro j x e; simp at e
 | @cons a b as bs r t ih =>
  intro j x e
  cases j with
  | zero=>simp at e; subst e; exact ⟨b,rfl,r⟩
  | succ j=>simpa using ih (by simpa using e)
theorem qc8 {α β:Type}{F:α->β->Prop}{xs:List α}{ys:List β}(h:Paired F xs ys){j:Nat}{x:α}{y:β}(e1:xs[j]?=some x)(e2:ys[j]?=some y):F x y:=by
 obtain ⟨z,e,r⟩:=qan h e1
 rw [e2] at e; cases e; exact r
abbrev qbh (H:Hp)(bs:List Addr)(ks:List (List Int)):Prop:=Paired (fun b k=>H b=some (.tup (iv k))) bs ks
theorem Inv.tupI {X:Cx}{pins:List (Addr × Obj)}{σ:St}{H:Hp}{s:Shared}{b:Addr}{k:List Int}(I:Inv X pins σ H s)(h:H b=some (.tup (iv k))):TupI s.heap b k:=by
 obtain ⟨z,its,r,o,e,c,n,d,_⟩:=(show qaV X.prog X.w H s.heap b (.tup (iv k)) from I.hok b _ h)
 exact ⟨o,its.toArray,n,e,c,d,by simpa using intsAre_of r⟩
theorem qlk {α:Type}{n:Nat}{p:Array Nat}(hp:Of n p){ks:List α}(hk:ks.length=n)(d:α):(p.toList.map fun i=>ks.getD i d).Perm ks:=by
 have h1:=(Array.perm_iff_toList_perm.mp hp).map fun i=>ks.getD i d
 have h2:((List.toArray (List.range n)).toList.map fun i=>ks.getD i d)=ks:=by
  show (List.range n).map _=ks
  refine List.ext_getElem (by simp [hk]) fun i a b=>?_
  simp at a
  simp [hk ▸ a]
 rw [h2] at h1; exact h1
theorem qeW {c:Nat->Nat->Bool}{n:Nat}{p:Array Nat}(hp:Of n p)(u:Up c p n):p.toList.Pairwise fun i j=>c j i=false:=by
 rw [List.pairwise_iff_getElem]
 intro i j hi hj hij
 have hs:=hp.size
 have:=u i j (Nat.le_of_lt hij) (by rw [<- hs]; simpa using hj)
 have e1:at' p i=p.toList[i]:=by unfold at'; simp at hi; simp [hi]
 have e2:at' p j=p.toList[j]:=by unfold at'; simp at hj; simp [hj]
 rw [e1,e2] at this; exact this
theorem qh0 {prog:Program}{w:World}{A:Around}{s:Shared}{bs:List Addr}{ks:List (List Int)}(hl:bs.length=ks.length)(h2:2≤bs.length)(ht:∀ (j:Nat) b k,bs[j]?=some b->ks[j]?=some k->TupI s.heap b k/\k≠[]) :
  Asks prog w A (bs.map Value.ref) (fun i j=>lexI (ks.getD i []) (ks.getD j [])) (tuples' true) s where
 kind:=fun E Q h=>by
  obtain ⟨fs,hf,hi,hn⟩:∃ fs:List Value,KatTups s.heap (bs.map Value.ref) fs/\(∀ v∈fs,∃ n t,v = .int n t)/\fs.length=bs.length:=by
   clear h2 h
   induction bs generalizing ks with
   | nil=>exact ⟨[],.nil,(fun v hv=>nomatch hv),rfl⟩
   | cons b bs ih =>
    cases ks with
    | nil=>simp at hl
    | cons k ks =>
     obtain ⟨fs,h1,h2,h3⟩:=ih (ks:=ks) (by simpa using hl) fun j b' k' e1 e2=>ht (j + 1) b' k' (by simpa using e1) (by simpa using e2)
     obtain ⟨⟨o,items,n,e,c,d,r⟩,ne⟩:=ht 0 b k rfl rfl
     obtain ⟨x,xs,rfl⟩:∃ x xs,k=x :: xs:=by cases k with
      | nil=>exact absurd rfl ne
      | cons x xs=>exact ⟨x,xs,rfl⟩
     generalize hit:items.toList=l at r
     cases r with
     | cons n' t q =>
      refine ⟨.int x t :: fs,.cons e c d ?_ h1,fun v hv=>?_,by simp [h3]⟩
      ·rw [<- Array.getElem?_toList,hit]; rfl
      ·rcases List.mem_cons.mp hv with rfl | hv
       ·exact ⟨_,_,rfl⟩
       ·exact h2 v hv
  refine kat_kind (T := .type "int") hf (by omega) (fun v hv=>?_) (by decide) h
  obtain ⟨n,t,rfl⟩:=hi v hv
  exact .now
 less:=fun i j ⟨hi,hj,hne⟩ Q h=>by
  rw [List.length_map] at hi hj
  have g1:(bs.map Value.ref).getD i Value.none = .ref bs[i]:=by simp [hi]
  have g2:(bs.map Value.ref).getD j Value.none = .ref bs[j]:=by simp [hj]
  have k1:ks.getD i []=ks[i]'(by omega):=by simp [hl ▸ hi]
  have k2:ks.getD j []=ks[j]'(by omega):=by simp [hl ▸ hj]
  rw [g1,g2]
  rw [k1,k2] at h
  exact qhm (ht i _ _ (by simp [hi]) (by simp [hl ▸ hi])).1 (ht j _ _ (by simp [hj]) (by simp [hl ▸ hj])).1 h
def qdp (ms:List (List Int)):Prop:=ms.Pairwise fun a b=>lexI b a=false
def qip:List V->Hp->VK->Prop:=fun xs H Q=>∃ (d:Addr) (kvs:List (List Key × V)) (ks:List (List Int)),xs=[.ref d]/\Rd H d (.dT kvs)/\kvs.map (·.1)=ks.map (fun k=>k.map Sum.inl)/\(∀ k∈ks,k≠[])/\ks.length < 65536 /\
 ∀ (q:Addr) (bs:List Addr) (ms:List (List Int)),H q=none->ms.Perm ks->qdp ms->qbh H bs ms->Q (.ref q) (upd H q (.lst (bs.map V.ref)))
section
variable {X:Cx}
theorem qiI {H:Hp}{b:Addr}{k:List Int}(h:H b=some (.tup ((k.map Sum.inl).map kV))):H b=some (.tup (iv k)):=by
 rw [h,List.map_map]; rfl
theorem qd9:∀ (bs:List Addr),Vals (bs.map V.ref) (bs.map Value.ref)
 | [] => .nil
 | _ :: bs => .cons rfl (qd9 bs)
theorem qic {H:Hp}{bs:List Addr}{ks:List (List Int)}(h:qbh H bs ks){n:Nat}{p:Array Nat}(hp:Of n p)(hn:ks.length=n):qbh H (p.toList.map fun i=>bs.getD i 0) (p.toList.map fun i=>ks.getD i []):=by
 refine qel (by simp) fun j x y e1 e2=>?_
 have hl:=Paired.length h
 rw [List.getElem?_map,Option.map_eq_some_iff] at e1 e2
 obtain ⟨i,hi,rfl⟩:=e1
 obtain ⟨i',hi',rfl⟩:=e2
 rw [hi] at hi'; cases hi'
 have lt:i < n:=by
  have:=(Array.perm_iff_toList_perm.mp hp).mem_iff.mp (List.mem_of_getElem? hi)
  exact List.mem_range.mp this
 have l1:i < bs.length:=by omega
 have l2:i < ks.length:=by omega
 exact qc8 h (x:=bs.getD i 0) (y:=ks.getD i []) (j:=i) (by simp [l1]) (by simp [l2])
theorem qeG (hc:X.calm=true):qbP X (.builtin "sorted") qip:=by
 intro pins s σ H xs us Q I r h
 obtain ⟨d,kvs,ks,rfl,hd,ek,hne,few,q⟩:=h
 obtain ⟨u,rfl,ru⟩:=vals1 r
 obtain rfl:u=Value.ref d:=ru
 obtain ⟨lo,z,nd,es,ep,de,en⟩:=I.entT hd
 have hkl:kvs.length=ks.length:=by have:=congrArg List.length ek; simpa using this
 have hes:=en.size
 refine qgO (qfp (qih lo) (I.ok.hd hc) de (by omega) fun h' tk vs kp lv pv=>?_)
 obtain ⟨bs,rfl,tb⟩:∃ bs:List Addr,vs=bs.map Value.ref/\qbh H bs ks:=by
  have:∀ (j:Nat) v,vs[j]?=some v->∃ b k,v = .ref b/\ks[j]?=some k/\H b=some (.tup (iv k)):=fun j v e=>by
   obtain ⟨e',he,rfl⟩:=pv j v e
   obtain ⟨kv,b,w1,w2,w3,_⟩:=en.at he
   have hk:(kvs.map (·.1))[j]?=some kv.1:=by rw [List.getElem?_map,w1]; rfl
   rw [ek,List.getElem?_map,Option.map_eq_some_iff] at hk
   obtain ⟨k,hk1,hk2⟩:=hk
   exact ⟨b,k,w2,hk1,qiI (by rw [hk2]; exact w3)⟩
  have hvl:vs.length=ks.length:=by omega
  clear pv lv hes en ek hne few q hkl nd z
  induction vs generalizing ks with
  | nil=>cases ks with
   | nil=>exact ⟨[],rfl,.nil⟩
   | cons k ks=>simp at hvl
  | cons v vs ih =>
   cases ks with
   | nil=>simp at hvl
   | cons k ks =>
    obtain ⟨b,k',rfl,e1,e2⟩:=this 0 v rfl
    simp at e1; subst e1
    obtain ⟨bs,rfl,t⟩:=ih ks (fun j v e=>by simpa using this (j + 1) v (by simpa using e)) (by simpa using hvl)
    exact ⟨b :: bs,rfl,.cons e2 t⟩
 have hbl:bs.length=ks.length:=Paired.length tb
 have I2:Inv X pins σ H { s with heap:=h',toks:=tk }:=I.kept (t':=tk) kp
 refine ⟨by simpa [hbl] using few,fun i j=>lexI (ks.getD i []) (ks.getD j []),tuples' true,ordI _,fun h2 h'' kp2=>qh0 hbl (by simpa using h2) fun j b k e1 e2=>⟨?_,hne k (List.mem_of_getElem? e2)⟩,fun p e h'' o1 o2 kp2 at2=>?_⟩
 ·exact (I2.tupI (qc8 tb e1 e2)).at fun o e=>kp2 b o e
 ·rw [List.length_map,hbl] at o1 o2
  have pw:=qeW o1 o2
  refine ⟨.ref h'.objs.size,_,I2.laid (t':=tk) (a:=h'.objs.size) (o := .lst ((p.toList.map fun i=>bs.getD i 0).map V.ref)) kp2 (Nat.le_refl _) ⟨?_,(p.toList.map fun i=>bs.getD i 0).map Value.ref,e,qd9 _,?_⟩,rfl,q _ (p.toList.map fun i=>bs.getD i 0) (p.toList.map fun i=>ks.getD i []) (I2.hok.fresh (Nat.le_refl _)) (qlk o1 rfl _) ?_ (qic tb o1 rfl)⟩
  ·simp; rw [o1.size,sizeLine_eq]; omega
  ·rw [at2]
   congr 3
   unfold qem
   rw [List.map_map]
   congr 1
   refine List.map_congr_left fun i hi=>?_
   have lt:i < ks.length:=List.mem_range.mp ((Array.perm_iff_toList_perm.mp o1).mem_iff.mp hi)
   simp [hbl ▸ lt]
  ·exact List.pairwise_map.mpr pw
end
def vaV (v d:Addr):HO := .ext fun h=>h.IsValuesView v d
section
variable {X:Cx}{o:Expr}{to:TE}{apos cpos:Pos}
def qjw (to:TE):TE:=fun σ H Q=>to σ H fun x H1=>∃ d kvs,x = .ref d/\Rd H1 d (.dT kvs)/\∀ v,H1 v=none->Q (.ref v) (upd H1 v (vaV v d))
theorem qg5 (ho:PE X o to)(hbase:attributeBase o "values" X.env (eval o X.env)=eval o X.env:=by rfl)(hline:(apos.endLine == cpos.line)=true:=by rfl):PE X (.Call (.Attribute o "values" apos) [] [] cpos) (qjw to):=by
 intro pins s σ H Q I h
 refine wpAny_Call_method0_late hbase hline (thn (ho pins s σ H _ I h) fun v s1 ⟨x,H1,I1,r1,d,kvs,ex,hd,q⟩=>?_)
 subst ex
 cases r1
 obtain ⟨lo,z,nd,es,ep,de,en⟩:=I1.entT hd
 obtain ⟨ob,gb,xb,db⟩:=id de
 refine ⟨"dict", "dict.values",F.plainAttrs_dict,F.slot_dict_values,F.type_dict_values,de.ty,(fun b e=>by cases e; exact ⟨ob,gb,xb.2.1⟩),Calls.callWith_builtin rfl (PySem.evalArgs_none ?_)⟩
 refine call_meetsIn F.slot_dict_values de.ty F.entry_dict_values (F.args_dict_values_1 _) (qeU lo) ⟨⟨es,ep,de⟩,.ref s1.heap.objs.size,_,I1.laid (t':=s1.toks) (o:=vaV s1.heap.objs.size d) (fun b u e=>Heap.get?_push_of_some _ e) (Nat.le_refl _) ⟨⟨_,Heap.get?_push_size _ rfl,rfl,rfl⟩,⟨_,Heap.get?_push_size _ rfl⟩,fun h1 h2 ⟨o,e,r⟩ k=>⟨o,k o e,r⟩⟩,rfl,q _ (I1.hok.fresh (Nat.le_refl _))⟩
end
section
variable {X:Cx}
theorem qe0 (f:Nat->Int)(ns:List Int)(h:∀ i,i < ns.length->f i=ns.getD i 0):PySem.preSum f ns.length=ns.sum:=by
 have:∀ m,m≤ns.length->PySem.preSum f m=(ns.take m).sum:=by
  intro m
  induction m with
  | zero=>intro _; simp [PySem.preSum]
  | succ m ih =>
   intro hm
   show PySem.preSum f m + f m=_
   have hl:m < ns.length:=by omega
   rw [ih (by omega),h m hl,List.take_succ_eq_append_getElem hl,List.sum_append]
   simp [hl]
 have:=this ns.length (Nat.le_refl _)
 rwa [List.take_length] at this
theorem qhV (hc:X.calm=true):qbP X (.builtin "sum") (fun xs H Q=>∃ v d kvs ns,xs=[.ref v]/\H v=some (vaV v d)/\Rd H d (.dT kvs)/\kvs.map (·.2)=iv ns/\Q (.int ns.sum) H):=by
 intro pins s σ H xs us Q I r h
 obtain ⟨v,d,kvs,ns,rfl,hv,hd,en',q⟩:=h
 obtain ⟨u,rfl,ru⟩:=vals1 r
 obtain rfl:u=Value.ref v:=ru
 obtain ⟨lo,z,nd,es,ep,de,en⟩:=I.entT hd
 obtain ⟨vw,_,_⟩:=(show qaV X.prog X.w H s.heap v (vaV v d) from I.hok v _ hv)
 have hl:kvs.length=ns.length:=by have:=congrArg List.length en'; simpa using this
 have hes:=en.size
 refine PySem.call_sum_walkG (qia vw de ⟨_,_,_,_,_,_,(fun i=>ns.getD i 0),rfl,qgv (A:=X.A.in1) (show X.A.in1.handled=none from I.ok.hd hc) _ d (Nat.ne_of_lt de.lt) es ep,⟨⟨_,Heap.get?_push_size _ rfl,rfl,rfl⟩,de.at fun o e=>Heap.get?_push_of_some _ e⟩,?_,?_,fun h' tk t' kp=>?_⟩)
 ·intro b hb
  show b < (s.heap.push _).objs.size
  rw [Heap.size_push]
  simp only [List.mem_cons,List.not_mem_nil,or_false] at hb
  rcases hb with rfl | rfl
  ·exact Nat.lt_succ_self _
  ·exact Nat.lt_succ_of_lt de.lt
 ·rintro i w' ⟨e,he,rfl⟩
  obtain ⟨kv,b,w1,w2,w3,w4⟩:=en.at he
  have hk:(kvs.map (·.2))[i]?=some kv.2:=by rw [List.getElem?_map,w1]; rfl
  rw [en',List.getElem?_map,Option.map_eq_some_iff] at hk
  obtain ⟨n,hn1,hn2⟩:=hk
  rw [<- hn2] at w4
  obtain ⟨t,ht⟩:=(show ∃ t,e.val=Value.int n t from w4)
  refine ⟨t,?_⟩
  rw [ht]; congr 1
  show n=ns.getD i 0
  rw [List.getD_eq_getElem?_getD,hn1]; rfl
 ·have e:PySem.preSum (fun i=>ns.getD i 0) es.size=ns.sum:=by rw [hes,hl]; exact qe0 _ ns fun i _=>rfl
  rw [e]
  refine ⟨.int ns.sum,H,I.kept (t':=tk) fun b o g=>kp b o ?_ (Heap.get?_push_of_some _ g),⟨_,rfl⟩,q⟩
  intro hm
  rw [List.mem_singleton.mp hm] at g
  exact absurd (Heap.lt_size g) (Nat.lt_irrefl _)
end
structure qh3 (J:It)(n:Nat)(f:Nat->Hp->V->Hp->Prop)(ok:Hp->Prop):Prop where
 go:∀ i H,i < n->ok H->J.go i H
 yld:∀ i H x H',i < n->ok H->J.yld i H x H'->f i H x H'
 stop:∀ H,ok H->J.stop n H
section
variable {J:It}{n:Nat}{f:Nat->Hp->V->Hp->Prop}{ok:Hp->Prop}
theorem qb2 (Y:qh3 J n f ok){g:TG}{tc:TT}{te:TE}{H:Hp}{R:Addr->Hp->Prop}{σ1:St}(Pv:Addr->Nat->List V->St->Hp->Prop)(hn:n≤100000)(hp0:∀ p,H p=none->Pv p 0 [] σ1 (upd H p (.lst [])))
  (hok:∀ p i ys σ' H',H p=none->Pv p i ys σ' H'->ok H')
  (hs:∀ p i ys σ' H' x H'',H p=none->i < n->ys.length≤i->Pv p i ys σ' H'->H' p=some (.lst ys)->f i H' x H''->∀ (Q1:V->St->Hp->Prop) (Q2:St->Hp->Prop),(∀ v σ2 H5,H5 p=some (.lst ys)->Pv p (i + 1) (ys ++ [v]) σ2 (upd H5 p (.lst (ys ++ [v])))->Q1 v σ2 H5)->(∀ σ2 H4,H4 p=some (.lst ys)->Pv p (i + 1) ys σ2 H4->Q2 σ2 H4) ->
    g x σ' H'' fun σ2 H3=>tc σ2 H3 fun b H4=>if b=true then te σ2 H4 fun v H5=>Q1 v σ2 H5 else Q2 σ2 H4)
  (q:∀ p ys σ' H',H p=none->Pv p n ys σ' H'->H' p=some (.lst ys)->ys.length≤n->R p H') :
  ∀ p,H p=none->∃ W:Nat->Nat->List V->St->Hp->Prop,(∃ m,W 0 m [] σ1 (upd H p (.lst [])))/\∀ i m ys σ' H',W i m ys σ' H' ->
   (J.stop i H'/\R p H')\/(J.go i H'/\∀ x H2,J.yld i H' x H2->g x σ' H2 fun σ2 H3=>tc σ2 H3 fun b H4=>if b=true then te σ2 H4 fun v H5=>ys.length < sizeLine/\H5 p=some (.lst ys)/\(∃ m',m' < m/\W (i + 1) m' (ys ++ [v]) σ2 (upd H5 p (.lst (ys ++ [v]))))
    else ∃ m',m' < m/\W (i + 1) m' ys σ2 H4):=by
 intro p hp
 refine ⟨fun i m ys σ' H'=>m=n - i/\i≤n/\ys.length≤i/\Pv p i ys σ' H'/\H' p=some (.lst ys),⟨n,by simp,Nat.zero_le _,Nat.zero_le _,hp0 p hp,uS⟩,?_⟩
 rintro i m ys σ' H' ⟨rfl,hi,hl,pv,hp'⟩
 have o:=hok p i ys σ' H' hp pv
 by_cases hlt:i < n
 ·refine .inr ⟨Y.go i H' hlt o,fun x H2 y=>hs p i ys σ' H' x H2 hp hlt hl pv hp' (Y.yld i H' x H2 hlt o y) _ _ (fun v σ2 H5 h5 pv5=>⟨by rw [sizeLine_eq]; omega,h5,n - (i + 1),by omega,rfl,hlt,by simp; omega,pv5,uS⟩) fun σ2 H4 h4 pv4=>⟨n - (i + 1),by omega,rfl,hlt,by omega,pv4,h4⟩⟩
 ·have e:i=n:=by omega
  subst e
  exact .inl ⟨Y.stop H' o,q p ys σ' H' hp pv hp' hl⟩
end
theorem qaT {K:PySem.W.Frag}{a:Addr}{xs:List V}:qh3 (Itl K a) xs.length (fun i H x H'=>H'=H/\xs[i]?=some x) (fun H=>H a=some (.lst xs)) :=
 ⟨fun i H hi o=>⟨xs,xs[i],SqL.of o,by simp [hi]⟩,fun i H x H' hi o ⟨e,y⟩=>⟨e,y xs (SqL.of o)⟩,fun H o=>⟨xs,SqL.of o,Nat.le_refl _⟩⟩
end L2
namespace L2
open PySem PySem.Spec PyProof.Rows
end L2
namespace L2
open PySem PySem.W PySem.Spec PyProof.Rows DI Srt
def qbl (kvs more:List (List Key × V)):List (List Key × V):=more.foldl (fun acc kv=>putK acc kv.1 kv.2) kvs
theorem qcf:∀ (more kvs:List (List Key × V)),(qbl kvs more).length≤kvs.length + more.length
 | [],kvs=>by show kvs.length≤kvs.length + 0; omega
 | p :: r,kvs=>by
  have h1:=qcf r (putK kvs p.1 p.2)
  have h2:=qbC kvs p.1 p.2
  show (qbl (putK kvs p.1 p.2) r).length≤_
  rw [List.length_cons]; omega
theorem qb4 (kvs more:List (List Key × V))(kv:List Key × V):qbl kvs (more ++ [kv])=putK (qbl kvs more) kv.1 kv.2:=by unfold qbl; rw [List.foldl_append]; rfl
abbrev qkK (H:Hp)(ys:List V)(kvs:List (List Key × V)):Prop:=Paired (fun v (kv:List Key × V)=>∃ a b,v = .ref a/\H a=some (.tup [.ref b,kv.2])/\H b=some (.tup (kv.1.map kV))) ys kvs
section
variable {X:Cx}{pins:List (Addr × Obj)}{σ:St}{A:Around}{R:Result->Shared->Prop}{it l d:Addr}{ys:List V}{kvs:List (List Key × V)}{H:Hp}
theorem qgj (hh:A.in1.handled=none)(hu:A.in1.units < cLine)(hl:H l=some (.lst ys))(hk:qkK H ys kvs)(hz:ys.length≤1000)(hdn:H d=none)
  (fin:∀ s',Inv X pins σ (upd H d (.dT (qbl [] kvs))) s'->R (.ok (.ret .none)) s') :
  ∀ (k i:Nat) (j:Int) (s:Shared),ys.length - i=k->i≤ys.length->s.heap.IsListIter it l i->Inv X pins σ (upd H d (.dT (qbl [] (kvs.take i)))) s->FpOk X pins (upd H d (.dT (qbl [] (kvs.take i)))) it ->
   codeAny (model X.prog X.w) A (.builtin "dict.update.loop" ⟨[.ref d,.ref it,rawInt j,.none],[]⟩) R s:=by
 intro k
 have hlen:kvs.length=ys.length:=(Paired.length hk).symm
 have nd:∀ {b:Addr} {o u:HO},H b=some o->upd H d u b=some o:=fun {b o u} e=>by rw [uE (qaf e hdn)]; exact e
 induction k with
 | zero =>
  intro i j s hk' hi st I f
  have hin:i=ys.length:=by omega
  subst hin
  refine codeAny_builtin PySem.F.entry_dict_update_loop ?_
  rw [Around.under_plainId PySem.F.plain_dict_update_loop _]
  show wpAny _ A.in1 (pyNext (.ref it) >>= _) _ _ s
  obtain ⟨its,rv,p,_⟩:=I.list (SqL.of (K:=X.K) (nd hl))
  have hil:=rv.length
  refine wpAny_bind (wpAny_pyNext_list_end hh st p.isList (by simp; omega) fun h' eb=>wpAny_bind (wpAny_pure (wpAny_pure ?_)))
  have e:kvs.take ys.length=kvs:=by rw [<- hlen,List.take_length]
  rw [e] at I
  exact fin _ (I.turned (t':=s.toks) (fun b o hb e=>eb b o hb e) (by rw [e] at f; exact f.1) f.2.1 f.2.2.2.1 f.2.2.2.2.1 f.2.2.2.2.2)
 | succ k ih =>
  intro i j s hk' hi st I f
  have hlt:i < ys.length:=by omega
  refine codeAny_builtin PySem.F.entry_dict_update_loop ?_
  rw [Around.under_plainId PySem.F.plain_dict_update_loop _]
  show wpAny _ A.in1 (pyNext (.ref it) >>= _) _ _ s
  obtain ⟨its,rv,p,_⟩:=I.list (SqL.of (K:=X.K) (nd hl))
  have hyi:ys[i]?=some ys[i]:=List.getElem?_eq_getElem hlt
  obtain ⟨u,hu',ru⟩:=rv.get hyi
  refine wpAny_bind (wpAny_pyNext_list_item st p.isList (x:=u) (by simpa using hu') fun h' st' sb=>?_)
  have I1:Inv X pins σ (upd H d (.dT (qbl [] (kvs.take i)))) { s with heap:=h' }:=I.turned (t':=s.toks) (fun b o hb e=>(sb.2 b hb).trans e) f.1 f.2.1 f.2.2.2.1 f.2.2.2.2.1 f.2.2.2.2.2
  obtain ⟨kv,hkv,a,b,ea,ha,hb⟩:=qan hk hyi
  rw [ea] at ru
  cases ru
  obtain ⟨us,r2,tu,_⟩:=I1.tuple (SqT.of (K:=X.K) (nd (u := .dT (qbl [] (kvs.take i))) ha))
  cases r2 with
  | cons rk rr=>cases rr with
   | cons rv' rr =>
    cases rr; cases rk
    rename_i uv
    obtain ⟨⟨cls,dct,dat,sl⟩,ho,hc,n,hdd⟩:=id tu
    simp only at hc hdd
    subst hc hdd
    dsimp only
    refine wpAny_bind (wpAny_holding (wpAny_bind (wpAny_tryCatch ?_)))
    unfold Builtin.Dict.pairItems
    refine wpAny_bind (wpAny_typeOf (s:={ s with heap:=h' }) ⟨_,ho,rfl⟩ ?_)
    rw [if_pos (by decide)]
    refine wpAny_bind (wpAny_seqItems ho rfl (wpAny_pure ?_))
    show wpAny _ _ (holding [.ref b,uv] (dictSet d (.ref b) uv)) _ _ _
    obtain ⟨z,hd,xs,rel,dd⟩:=qlM I1.hok (uS (H:=H) (a:=d))
    have hxl:xs.length≤sizeLine:=by rw [<- Paired.length rel]; exact z
    have ekey:(kvs.take (i + 1))=kvs.take i ++ [kv]:=by
     rw [List.take_succ,hkv]; rfl
    refine wpAny_holding (wpAny_dictSet_heap (knd:=tupleKind (qaF X.prog X.w)) hu (qev I1.hok (nd hb)) dd (fun h2 dd' hs=>?_) hxl)
    obtain ⟨qo,es,ep,hq,h2',h3,h4,_,h5⟩:=dd'
    have hml:=qcf (kvs.take (i + 1)) []
    have I2:Inv X pins σ (upd H d (.dT (qbl [] (kvs.take (i + 1))))) { s with heap:=h2,toks:=s.toks + (tupleKind (qaF X.prog X.w)).draws kv.1 }:=by
     have:=qd4 (t':=s.toks + (tupleKind (qaF X.prog X.w)).draws kv.1) (ob := .dT (putK (qbl [] (kvs.take i)) kv.1 kv.2)) I1 (by rw [uS]; exact True.intro) hs ⟨qo,hq⟩ ⟨?_,hd,_,(rel.put kv.1 (nd hb) rv').keeps fun c ys ec=>?_,qo,es,ep,hq,h2',h3,h4,h5⟩
     ·rw [qgz] at this
      rw [ekey,qb4]; exact this
     ·rw [<- qb4,<- ekey]
      rw [List.length_take,List.length_nil] at hml
      rw [sizeLine_eq]; omega
     ·have hc:c≠d:=by intro z; subst z; rw [uS] at ec; cases ec
      rw [uE hc]; exact ec
    refine wpAny_pure ⟨plainId_quiet PySem.F.plain_dict_update_loop _,ih (i + 1) _ _ (by omega) hlt ?_ I2 ?_⟩
    ·have hid:it≠d:=by intro z; subst z; have:=f.1; rw [uS] at this; cases this
     exact st'.at fun o e=>hs.extBut it o hid e
    ·have hid:it≠d:=by intro z; subst z; have:=f.1; rw [uS] at this; cases this
     exact ⟨by rw [uE hid]; have:=f.1; rwa [uE hid] at this,f.2⟩
theorem qgm (hc:X.calm=true)(hu:X.A.units + 3 < cLine):qbP X (.type "dict") (fun xs H Q=>∃ (l:Addr) (ys:List V) (kvs:List (List Key × V)),xs=[.ref l]/\H l=some (.lst ys)/\qkK H ys kvs/\ys.length≤1000/\∀ p,H p=none->Q (.ref p) (upd H p (.dT (qbl [] kvs)))):=by
 intro pins s σ H xs us Q I r h
 obtain ⟨l,ys,kvs,rfl,hl,hk,hz,q⟩:=h
 obtain ⟨u,rfl,rx⟩:=vals1 r
 cases rx
 have hn:=I.hok.fresh (Nat.le_refl s.heap.objs.size)
 refine callType_codes (Q₁:=fun obj s₁=>obj = .ref s.heap.objs.size/\s₁={ s with heap:=s.heap.push { cls := .type "dict",data := .dict #[] } }) PySem.F.kt_called_dict (PySem.F.kt_typeCall_dict_1 _) PySem.F.entry_dict_init (kt_code_dict_new _ ⟨rfl,rfl⟩) ?_
 rintro obj s₁ ⟨rfl,rfl⟩
 have I1:=I.laid (a:=s.heap.objs.size) (o := .dT []) (h':=s.heap.push { cls := .type "dict",data := .dict #[] }) (t':=s.toks) (fun _ _ q=>Heap.get?_push_of_some _ q) (Nat.le_refl _) (qfT s.heap I.big)
 have hT0:Shared.TypeIs { s with heap:=s.heap.push { cls := .type "dict",data := .dict #[] } } (.ref s.heap.objs.size) "dict" := ⟨_,Heap.get?_push_size _ rfl,rfl⟩
 obtain ⟨_,its,n,rv,ho⟩:=(show qaV X.prog X.w H s.heap l (.lst ys) from I.hok l _ hl)
 have ho':(s.heap.push { cls := .type "dict",data := .dict #[] }).get? l=some { cls := .type "list",data := .seq its.toArray n }:=Heap.get?_push_of_some _ ho
 refine ⟨hT0,PySem.F.args_dict_init_2 _ _,?_⟩
 unfold Builtin.«dict.__init__»
 refine wpAny_bind ?_
 unfold Builtin.Dict.selfAndRest
 refine wpAny_bind (wpAny_notOrdered_dict hT0 ?_)
 show wpAny _ _ (pure (s.heap.objs.size,[Value.ref l])) _ _ _
 refine wpAny_pure ?_
 show wpAny _ _ (Builtin.Dict.updateFrom "dict.__init__" s.heap.objs.size (.ref l) [] .none) _ _ _
 unfold Builtin.Dict.updateFrom
 refine wpAny_bind (wpAny_typeOf ⟨_,ho',rfl⟩ ?_)
 rw [if_pos (by decide)]
 refine wpAny_bind (qer ho' rfl rfl rfl (by simpa using I.ok.hd hc) fun h1 tk1 k1=>?_)
 simp only [Option.isNone_none,if_true]
 refine wpAny_bind (wpAny_rule ?_)
 have I2:Inv X pins σ (upd H s.heap.objs.size (.dT [])) { s with heap:=h1,toks:=tk1 }:=I1.kept (t':=tk1) k1
 refine wpAny_bind (wpAny_pyIter_list (items:=its.toArray) ⟨_,k1 _ _ ho',rfl,n,rfl⟩ (wpAny_pure ⟨plainId_quiet PySem.F.plain_dict_update_loop _,?_⟩))
 refine qgj (X:=X) (pins:=pins) (σ:=σ) (H:=H) (ys:=ys) (kvs:=kvs) (l:=l) (by simpa using I.ok.hd hc) (by show X.A.units + 1 + 1 < cLine; omega) hl hk hz hn (fun s' I'=>⟨rfl,.ref s.heap.objs.size,_,I',rfl,q _ hn⟩) (ys.length - 0) 0 0 _ (by omega) (Nat.zero_le _) ⟨_,Heap.get?_push_size _ rfl,rfl,rfl⟩ (I2.kept (t':=tk1) fun b o e=>Heap.get?_push_of_some _ e) ?_
 exact I2.fpOk (Nat.le_refl _) (I2.hok.fresh (Nat.le_refl _))
end
end L2
namespace L2
open PySem PySem.Spec PyProof.Rows Srt
abbrev Mp:=List (List Int × Int)
def kII (p:List Int × Int):List Key × V:=(p.1.map Sum.inl,.int p.2)
def dI (m:Mp):HO := .dT (m.map kII)
def hasM (m:Mp)(k:List Int):Bool:=m.any fun p=>decide (p.1=k)
def getM (m:Mp)(k:List Int):Int:=((m.find? fun p=>decide (p.1=k)).map (·.2)).getD 0
def putM (m:Mp)(k:List Int)(v:Int):Mp:=if hasM m k=true then m.map (fun p=>if p.1=k then (p.1,v) else p) else m ++ [(k,v)]
def qah (m:Mp):List (List Int):=m.map (·.1)
theorem qff {a b:List Int}:a.map (Sum.inl:Int->Key)=b.map Sum.inl↔a=b:=List.map_inj_right fun _ _ e=>Sum.inl.inj e
theorem qkB (a b:List Int):decide (a.map (Sum.inl:Int->Key)=b.map Sum.inl)=decide (a=b):=by
 by_cases e:a=b
 ·subst e; simp
 ·rw [decide_eq_false e,decide_eq_false (fun z=>e (qff.mp z))]
theorem qlV (m:Mp)(k:List Int):((m.map kII).any fun kv=>decide (kv.1=k.map Sum.inl))=hasM m k:=by
 unfold hasM
 rw [List.any_map]
 congr 1
 funext p
 exact qkB p.1 k
theorem qgW (m:Mp)(k:List Int)(v:Int):putK (m.map kII) (k.map Sum.inl) (.int v)=(putM m k v).map kII:=by
 unfold putK putM
 rw [qlV]
 by_cases h:hasM m k=true
 ·rw [if_pos h,if_pos h,List.map_map,List.map_map]
  refine List.map_congr_left fun p _=>?_
  by_cases e:p.1=k
  ·simp [kII,e]
  ·simp [kII,e,qff]
 ·rw [if_neg h,if_neg h,List.map_append]; rfl
theorem qeV:∀ (m:Mp) (k:List Int),valV (m.map kII) (k.map Sum.inl)=(m.find? fun p=>decide (p.1=k)).map fun p=>V.int p.2
 | [],_=>rfl
 | p :: m,k=>by
  rw [List.map_cons,List.find?_cons]
  by_cases e:p.1=k
  ·rw [qcN (by simp [kII,e]),decide_eq_true e]; rfl
  ·rw [qcO (by simp [kII,qff,e]),decide_eq_false e]; exact qeV m k
theorem qgy (m:Mp)(k:List Int):(valV (m.map kII) (k.map Sum.inl)).getD (.int 0) = .int (getM m k):=by
 rw [qeV]; unfold getM
 cases m.find? fun p=>decide (p.1=k) <;> rfl
theorem qbQ {m:Mp}{k:List Int}:hasM m k=true↔k∈qah m:=by
 unfold hasM qah
 rw [List.any_eq_true,List.mem_map]
 simp
theorem qgx {m:Mp}{k:List Int}(h:k∈qah m):valV (m.map kII) (k.map Sum.inl)=some (.int (getM m k)):=by
 rw [qeV]; unfold getM
 cases e:m.find? fun p=>decide (p.1=k) with
 | some p=>rfl
 | none =>
  obtain ⟨p,hp,rfl⟩:=List.mem_map.mp h
  have:=List.find?_eq_none.mp e p hp
  simp at this
theorem qiP (k:List Int):getM [] k=0:=rfl
theorem qa6 (p:List Int × Int)(m:Mp)(k:List Int):getM (p :: m) k=if p.1=k then p.2 else getM m k:=by
 unfold getM
 rw [List.find?_cons]
 by_cases e:p.1=k
 ·rw [decide_eq_true e,if_pos e]; rfl
 ·rw [decide_eq_false e,if_neg e]
theorem qdg {m:Mp}{k:List Int}(h:k ∉ qah m):getM m k=0:=by
 induction m with
 | nil=>rfl
 | cons p m ih =>
  rw [qa6,if_neg (fun e=>h (by simp [qah,e])),ih fun z=>h (by simp only [qah,List.map_cons,List.mem_cons] at *; exact .inr z)]
theorem qfR {m:Mp}(nd:(qah m).Nodup){p:List Int × Int}(h:p∈m):getM m p.1=p.2:=by
 induction m with
 | nil=>cases h
 | cons q m ih =>
  rw [qa6]
  simp only [qah,List.map_cons,List.nodup_cons] at nd
  rcases List.mem_cons.mp h with rfl | h
  ·rw [if_pos rfl]
  ·rw [if_neg (fun e=>nd.1 (by rw [e]; exact List.mem_map_of_mem h)),ih nd.2 h]
theorem qfO (m:Mp)(k:List Int)(v:Int):qah (putM m k v)=if hasM m k=true then qah m else qah m ++ [k]:=by
 unfold putM
 by_cases h:hasM m k=true
 ·rw [if_pos h,if_pos h]
  unfold qah
  rw [List.map_map]
  refine List.map_congr_left fun p _=>?_
  by_cases e:p.1=k <;> simp [e]
 ·rw [if_neg h,if_neg h]; simp [qah]
theorem qbL {m:Mp}{k j:List Int}{v:Int}:j∈qah (putM m k v)↔j∈qah m\/j=k:=by
 rw [qfO]
 by_cases h:hasM m k=true
 ·rw [if_pos h]
  exact ⟨.inl,fun z=>z.elim id fun e=>by rw [e]; exact qbQ.mp h⟩
 ·rw [if_neg h]; simp
theorem qhh {m:Mp}{k:List Int}{v:Int}(h:(qah m).Nodup):(qah (putM m k v)).Nodup:=by
 rw [qfO]
 by_cases e:hasM m k=true
 ·rw [if_pos e]; exact h
 ·rw [if_neg e]
  refine List.nodup_append.mpr ⟨h,by simp,fun x hx y hy z=>?_⟩
  rw [List.mem_singleton] at hy
  subst hy z
  exact e (qbQ.mpr hx)
theorem qey (m:Mp)(k j:List Int)(v:Int):getM (m.map fun p=>if p.1=k then (p.1,v) else p) j=if j=k/\hasM m k=true then v else getM m j:=by
 induction m with
 | nil=>simp [hasM,qiP]
 | cons p m ih =>
  rw [List.map_cons,qa6,qa6,ih]
  have hh:hasM (p :: m) k=(decide (p.1=k) || hasM m k):=rfl
  rw [hh]
  by_cases e:p.1=k
  ·rw [if_pos e,decide_eq_true e]
   by_cases ej:p.1=j
   ·rw [if_pos ej,if_pos ⟨ej.symm.trans e,rfl⟩]
   ·have:j≠k:=fun z=>ej (e.trans z.symm)
    rw [if_neg ej,if_neg (fun z=>this z.1),if_neg (fun z=>this z.1),if_neg ej]
  ·rw [if_neg e,decide_eq_false e,Bool.false_or]
   by_cases ej:p.1=j
   ·have:j≠k:=fun z=>e (ej.trans z)
    rw [if_pos ej,if_neg (fun z=>this z.1),if_pos ej]
   ·rw [if_neg ej,if_neg ej]
theorem qhA (m:Mp)(k j:List Int)(v:Int)(h:k ∉ qah m):getM (m ++ [(k,v)]) j=if j=k then v else getM m j:=by
 induction m with
 | nil =>
  rw [List.nil_append,qa6]
  by_cases e:k=j
  ·rw [if_pos e,if_pos e.symm]
  ·rw [if_neg e,if_neg (fun z=>e z.symm)]
 | cons p m ih =>
  rw [List.cons_append,qa6,qa6,ih fun z=>h (by simp only [qah,List.map_cons,List.mem_cons] at *; exact .inr z)]
  by_cases ej:p.1=j
  ·have:j≠k:=fun z=>h (by simp [qah,ej.trans z])
   rw [if_pos ej,if_pos ej,if_neg this]
  ·rw [if_neg ej,if_neg ej]
theorem qiO (m:Mp)(k j:List Int)(v:Int):getM (putM m k v) j=if j=k then v else getM m j:=by
 unfold putM
 by_cases h:hasM m k=true
 ·rw [if_pos h,qey]
  by_cases e:j=k <;> simp [e,h]
 ·rw [if_neg h,qhA _ _ _ _ fun z=>h (qbQ.mpr z)]
def qav (m:Mp):List Int:=m.map (·.2)
theorem qh8 {m:Mp}(nd:(qah m).Nodup)(k:List Int)(v:Int):(qav (putM m k (getM m k + v))).sum=(qav m).sum + v:=by
 unfold putM
 by_cases h:hasM m k=true
 ·rw [if_pos h]
  have hk:∀ (m:Mp),(qah m).Nodup->k∈qah m->(qav (m.map fun p=>if p.1=k then (p.1,getM m k + v) else p)).sum=(qav m).sum + v:=by
   intro m
   have gen:∀ (m:Mp) (g:Int),(qah m).Nodup->(k∈qah m->g=getM m k)->(qav (m.map fun p=>if p.1=k then (p.1,g + v) else p)).sum=(qav m).sum + if k∈qah m then v else 0:=by
    intro m g
    induction m with
    | nil=>intro _ _; simp [qav,qah]
    | cons p m ih =>
     intro nd hg
     simp only [qah,List.map_cons,List.nodup_cons] at nd
     have hk':k∈qah (p :: m)↔k=p.1\/k∈qah m:=by simp [qah]
     by_cases e:p.1=k
     ·have hnk:k ∉ qah m:=by rw [<- e]; exact nd.1
      have hgv:g=p.2:=by rw [hg (hk'.mpr (.inl e.symm)),qa6,if_pos e]
      have:=ih nd.2 (fun z=>absurd z hnk)
      rw [if_neg hnk] at this
      simp only [qav,List.map_cons,List.sum_cons] at this ⊢
      rw [if_pos e,if_pos (hk'.mpr (.inl e.symm))]
      rw [this,hgv]; omega
     ·have:=ih nd.2 (fun z=>by rw [hg (hk'.mpr (.inr z)),qa6,if_neg e])
      simp only [qav,List.map_cons,List.sum_cons] at this ⊢
      rw [if_neg e,this]
      by_cases z:k∈qah m
      ·rw [if_pos z,if_pos (hk'.mpr (.inr z))]; omega
      ·rw [if_neg z,if_neg (fun q=>(hk'.mp q).elim (fun r=>e r.symm) z)]; omega
   intro nd hm
   have:=gen m (getM m k) nd fun _=>rfl
   rwa [if_pos hm] at this
  exact hk m nd (qbQ.mp h)
 ·rw [if_neg h]
  rw [qdg fun z=>h (qbQ.mpr z)]
  simp [qav]
theorem qfu {a b:List Int}(h:a.Perm b):a.sum=b.sum:=by
 induction h with
 | nil=>rfl
 | cons x _ ih=>simp [ih]
 | swap x y l=>simp; omega
 | trans _ _ h1 h2=>exact h1.trans h2
def rise (ks:List (List Int)):List (List Int):=ks.mergeSort fun a b=>!lexI b a
theorem qdQ {a b:List (List Int)}(h:a.Perm b)(ha:qdp a)(hb:qdp b):a=b :=
 List.Perm.eq_of_pairwise (le:=fun x y=>lexI y x=false) (fun x y _ _ h1 h2=>qdZ x y h2 h1) ha hb h
theorem qaI (ks:List (List Int)):(rise ks).Perm ks:=List.mergeSort_perm ks _
theorem qc3 (ks:List (List Int)):qdp (rise ks):=by
 have:=List.pairwise_mergeSort (le:=fun a b=>!lexI b a) (fun a b c h1 h2=>by simp at *; exact qfc _ _ _ h1 h2) (fun a b=>by
  cases h:lexI b a with
  | false=>simp
  | true=>simp [qdd _ _ h]) ks
 exact this.imp fun {a b} h=>by simpa using h
theorem qjH {ms ks:List (List Int)}(h:ms.Perm ks)(hr:qdp ms):ms=rise ks:=qdQ (h.trans (qaI ks).symm) hr (qc3 ks)
theorem qlE {A:Around}{k:Nat}(hr:Room k A):A.units + 3 < cLine:=by have:=hr.un; omega
theorem qd8 {K:PySem.W.Frag}{a:Addr}{xs:List V}:qh3 (ItE K true a) xs.length (fun i H v H'=>∃ p x,v = .ref p/\H p=none/\H'=upd H p (.tup [.int i,x])/\xs[i]?=some x) (fun H=>H a=some (.lst xs)) :=
 ⟨fun i H hi o=>⟨xs,xs[i],(SqL.of o),by simp [hi]⟩,fun i H v H' hi o ⟨p,x,e1,e2,e3,e4⟩=>⟨p,x,e1,e2,e3,e4 xs (SqL.of o)⟩,fun H o=>⟨xs,(SqL.of o),Nat.le_refl _⟩⟩
end L2
namespace L2
open PySem PySem.Spec PyProof.Rows
end L2
namespace My
open PySem L2
end My
namespace L2
open PySem PySem.Spec PyProof.Rows PySem.W
end L2
namespace L2
open PySem PySem.Spec PyProof.Rows Srt
end L2
namespace L2
open PySem PySem.Spec PyProof.Rows
end L2
namespace L2
open PySem
end L2
namespace L2
open PySem PySem.Spec PyProof.Rows
end L2
namespace DI
open PySem PySem.W PySem.Spec PyProof.Rows
end DI
namespace L2
open PySem PySem.W PySem.Spec PyProof.Rows DI Srt
end L2
namespace L2
open PySem PySem.Spec PyProof.Rows Srt
end L2
namespace L2
open PySem PySem.W PySem.Spec PyProof.Rows DI Srt
end L2
namespace PyProof.Rows
open PySem
end PyProof.Rows
namespace L2
open PySem PySem.Spec PyProof.Rows MA
end L2
namespace PySem.SeqAt
open AutoSeq1 (wpAny_loadPart')
open MeetsSeq MeetsSeq2 MeetsSeq3
def qdH (A:Around)(s:Shared)(y x:Value)(b:Bool):Prop :=
 ∀ (prog:Program) (w:World) (E:Value->Shared->Prop) (Q:Value->Shared->Prop),Q (.bool b) s->wpAny (model prog w) A (richCompare .GtE y x) Q E s
theorem qf4 (l b:Addr)(items items2:Array Value)(n n2:Nat)(dd dd2:Option Addr)(sl sl2:Array (Option Value))(e f res:Nat->Bool)
  (r1:∀ i,i < min items.size items2.size->e i=true->res i=res (i + 1)) (r2:∀ i,i < min items.size items2.size->e i=false->res i=f i) (r3:∀ i,min items.size items2.size≤i->res i=decide (items2.size≤items.size)) :
  Meets (Builtin.«tuple.__ge__» ⟨[.ref l,.ref b],[]⟩)
   (fun A R s=>s.heap.get? l=some { cls := .type "tuple",dict:=dd,data := .seq items n,slots:=sl }/\s.heap.get? b=some { cls := .type "tuple",dict:=dd2,data := .seq items2 n2,slots:=sl2 } /\
     (∀ j (h1:j < items.size) (h2:j < items2.size),EqAt A.in1 s items[j] items2[j] (e j))/\(∀ j (h1:j < items.size) (h2:j < items2.size),e j=false->qdH A.in1 s items[j] items2[j] (f j)) /\
     R (.ok (.ret (.bool (res 0)))) s) :=
 .of_wp fun prog w A R s h=>by
  obtain ⟨hp,g,d,tk,os⟩:=s; obtain ⟨hl,hb,he,hlt',h⟩:=h
  have f2:=AutoSeq1.sub_tuple_tuple
  have hZ:(items.toList.zip items2.toList).length=min items.size items2.size:=by simp
  wp_walk using wpAny_loadPart' hl,wpAny_loadPart' hb,wpAny_forIn_list _ (fun rest b s'=>b.1=none/\s'=⟨hp,g,d,tk,os⟩/\∃ i,rest=(items.toList.zip items2.toList).drop i /\
   R (.ok (.ret (.bool (res i)))) ⟨hp,g,d,tk,os⟩) _
  case turn =>
   rintro ⟨y,x⟩ rest b s' ⟨hb',rfl,i,hz,hR⟩
   have hlt:i < (items.toList.zip items2.toList).length:=by
    rcases Nat.lt_or_ge i (items.toList.zip items2.toList).length with h' | h'
    ·exact h'
    ·rw [List.drop_of_length_le h'] at hz; cases hz
   have hm:i < min items.size items2.size:=hZ ▸ hlt
   have h1:i < items.size:=Nat.lt_of_lt_of_le hm (Nat.min_le_left _ _)
   have h2:i < items2.size:=Nat.lt_of_lt_of_le hm (Nat.min_le_right _ _)
   rw [List.drop_eq_getElem_cons hlt] at hz
   injection hz with hyx hrest
   have hy:y=items[i]:=by have:=congrArg Prod.fst hyx; simpa using this
   have hx:x=items2[i]:=by have:=congrArg Prod.snd hyx; simpa using this
   subst hy hx
   refine wpAny_bind (he i h1 h2 prog w _ _ ?_)
   cases hy:e i with
   | true =>
    rw [r1 i hm hy] at hR
    wp_walk
    exact ⟨rfl,rfl,i + 1,hrest,hR⟩
   | false =>
    rw [r2 i hm hy] at hR
    have hc:=hlt' i h1 h2 hy
    simp only [Bool.not_false,if_true]
    refine wpAny_bind (wpAny_rule (wpAny_bind (hc prog w _ _ (wpAny_bind (wpAny_pure (wpAny_pure ?_))))))
    exact wpAny_pure ⟨_,rfl,hR⟩
  case fin =>
   rintro ⟨b1,b2⟩ s' ⟨hb',rfl,i,hz,hR⟩
   simp only at hb'
   subst hb'
   have hge:min items.size items2.size≤i:=by
    rcases Nat.lt_or_ge i (items.toList.zip items2.toList).length with h' | h'
    ·rw [List.drop_eq_getElem_cons h'] at hz; cases hz
    ·exact hZ ▸ h'
   rw [r3 i hge] at hR
   wp_walk
   exact ⟨_,rfl,by simpa [Builtin.Tuple.tupleCompareSizes] using hR⟩
  case h =>
   exact ⟨rfl,rfl,0,rfl,h⟩
section
variable {A:Around}{s:Shared}
theorem qdH.tuples {l b:Addr}{items items2:Array Value}{e f res:Nat->Bool}(hl:s.heap.IsTuple l items)(hb:s.heap.IsTuple b items2)(hu:A.units < cLine)
  (r1:∀ i,i < min items.size items2.size->e i=true->res i=res (i + 1)) (r2:∀ i,i < min items.size items2.size->e i=false->res i=f i) (r3:∀ i,min items.size items2.size≤i->res i=decide (items2.size≤items.size))
  (he:∀ j (h1:j < items.size) (h2:j < items2.size),EqAt A.in1 s items[j] items2[j] (e j)) (hf:∀ j (h1:j < items.size) (h2:j < items2.size),e j=false->qdH A.in1 s items[j] items2[j] (f j)):qdH A s (.ref l) (.ref b) (res 0):=fun prog w E Q h=>by
 obtain ⟨⟨cls,dd,data,sl⟩,ho,hc,n,hd⟩:=id hl
 obtain ⟨⟨cls2,dd2,data2,sl2⟩,ho2,hc2,n2,hd2⟩:=id hb
 simp only at hc hd hc2 hd2
 subst hc hd hc2 hd2
 exact richCompare_meets_room (op := .GtE) ⟨_,ho,rfl⟩ ⟨_,ho2,rfl⟩ F.slot_tuple_ge F.entry_tuple_ge (F.args_tuple_ge_2 _ _) (qf4 l b items items2 n n2 dd dd2 sl sl2 e f res r1 r2 r3)
  ⟨ho,ho2,he,hf,show Value.bool (res 0)≠Value.notImplemented/\Q (.bool (res 0)) s from ⟨(fun x=>nomatch x),h⟩⟩ hu
end
end PySem.SeqAt
namespace L2
open PySem MA Srt PySem.W PySem.Spec PyProof.Rows
section
variable {A:Around}{s:Shared}
open PySem.SeqAt in
theorem qk6 {x y:Addr}{as bs:List Int}(hx:TupI s.heap x as)(hy:TupI s.heap y bs)(hu:A.units < cLine):qdH A s (.ref x) (.ref y) (!lexI as bs):=by
 obtain ⟨xs,t1,r1⟩:=hx.isTuple
 obtain ⟨ys,t2,r2⟩:=hy.isTuple
 have l1:=IntsAre.length r1
 have l2:=IntsAre.length r2
 have lx:xs.size=as.length:=by simpa using l1
 have ly:ys.size=bs.length:=by simpa using l2
 have atI:∀ {vs:List Value} {ns:List Int},IntsAre vs ns->∀ {j:Nat} (h1:j < vs.length) (h2:j < ns.length),∃ t,vs[j] = .int ns[j] t:=by
  intro vs ns r
  induction r with
  | nil=>intro j h1; simp at h1
  | cons n t q ih =>
   intro j h1 h2
   cases j with
   | zero=>exact ⟨t,rfl⟩
   | succ j=>simpa using ih (by simpa using h1) (by simpa using h2)
 have key:=qdH.tuples (e:=fun i=>as[i]? == bs[i]?) (f:=fun i=>decide (bs.getD i 0≤as.getD i 0)) (res:=fun i=>!(if i < min as.length bs.length then lexI (as.drop i) (bs.drop i) else decide (as.length < bs.length))) t1 t2 hu (fun i hi e=>?_) (fun i hi e=>?_) (fun i hi=>?_) (fun j h1 h2=>?_) (fun j h1 h2 e=>?_)
 ·by_cases z:0 < min as.length bs.length
  ·rw [if_pos z] at key; simpa using key
  ·rw [if_neg z,<- qdY (as:=as) (bs:=bs) (i:=0) (by omega) (by omega)] at key; simpa using key
 ·have a1:i < as.length:=by omega
  have b1:i < bs.length:=by omega
  have e':as[i]=bs[i]:=by simpa [a1,b1] using e
  have h1:lexI (as.drop i) (bs.drop i)=lexI (as.drop (i + 1)) (bs.drop (i + 1)):=by
   rw [List.drop_eq_getElem_cons a1,List.drop_eq_getElem_cons b1]
   conv=>lhs; unfold lexI
   rw [if_pos e']
  rw [if_pos (by omega),h1]
  by_cases z:i + 1 < min as.length bs.length
  ·rw [if_pos z]
  ·rw [if_neg z,qdY (by omega) (by omega)]
 ·have a1:i < as.length:=by omega
  have b1:i < bs.length:=by omega
  have e':as[i]≠bs[i]:=by simpa [a1,b1] using e
  rw [if_pos (by omega),List.drop_eq_getElem_cons a1,List.drop_eq_getElem_cons b1]
  unfold lexI
  rw [if_neg e']
  by_cases z:as[i] < bs[i]
  ·have z2:¬ bs[i]≤as[i]:=by omega
   simp [a1,b1,z]
  ·have z2:bs[i]≤as[i]:=by omega
   simp [a1,b1,z2]
 ·rw [if_neg (by omega),lx,ly]
  by_cases z:as.length < bs.length
  ·rw [decide_eq_true z,decide_eq_false (by omega)]; rfl
  ·rw [decide_eq_false z,decide_eq_true (by omega)]; rfl
 ·have a1:j < as.length:=by omega
  have b1:j < bs.length:=by omega
  obtain ⟨t,q1⟩:=atI r1 (j:=j) (by simpa using h1) a1
  obtain ⟨u,q2⟩:=atI r2 (j:=j) (by simpa using h2) b1
  have q1':xs[j] = .int as[j] t:=by simpa using q1
  have q2':ys[j] = .int bs[j] u:=by simpa using q2
  rw [q1',q2']
  have:=EqAt.int_int (A:=A.in1) (s:=s) as[j] t bs[j] u
  simpa [a1,b1] using this
 ·have a1:j < as.length:=by omega
  have b1:j < bs.length:=by omega
  obtain ⟨t,q1⟩:=atI r1 (j:=j) (by simpa using h1) a1
  obtain ⟨u,q2⟩:=atI r2 (j:=j) (by simpa using h2) b1
  have q1':xs[j] = .int as[j] t:=by simpa using q1
  have q2':ys[j] = .int bs[j] u:=by simpa using q2
  rw [q1',q2']
  intro prog w E Q h
  have h':Q (.bool (decide (bs[j]≤as[j]))) s:=by simpa [a1,b1] using h
  exact ge_int h'
end
section
variable {X:Cx}
theorem qj3 (hu:X.A.units < cLine):OpR X (compareOp .Lt) (fun x y H Q=>∃ a b ns ms,x = .ref a/\y = .ref b/\H a=some (.tup (iv ns))/\H b=some (.tup (iv ms))/\Q (.bl (lexI ns ms)) H):=by
 intro pins s σ H x y v u Q I rx ry h
 obtain ⟨a,b,ns,ms,rfl,rfl,ha,hb,k⟩:=h
 cases rx
 cases ry
 exact PySem.W.cmp_ofLt (qjJ (I.tupI ha) (I.tupI hb) hu _ _ _ _ (qat I k rfl))
theorem qj4 (hu:X.A.units < cLine):OpR X (compareOp .GtE) (fun x y H Q=>∃ a b ns ms,x = .ref a/\y = .ref b/\H a=some (.tup (iv ns))/\H b=some (.tup (iv ms))/\Q (.bl (!lexI ns ms)) H):=by
 intro pins s σ H x y v u Q I rx ry h
 obtain ⟨a,b,ns,ms,rfl,rfl,ha,hb,k⟩:=h
 cases rx
 cases ry
 exact PySem.W.cmp_ofGtE (qk6 (I.tupI ha) (I.tupI hb) hu _ _ _ _ (qat I k rfl))
end
end L2
namespace My
open PySem L2 MA
def top (i:Nat):Stmt:=PySem.Challenge.pw_emptierbox_k17_what_is_a_spread.main.body.getD i (.Pass ⟨0,0,0,0⟩)
abbrev s_is_whole:Stmt:=top 1
theorem qc1:qao ["thing"] ["thing"] (qad s_is_whole):=⟨rfl,rfl,rfl,by decide +kernel,rfl,by decide +kernel,by decide +kernel⟩
abbrev s_is_load:Stmt:=top 4
theorem qdv:qao ["thing"] ["thing"] (qad s_is_load):=⟨rfl,rfl,rfl,by decide +kernel,rfl,by decide +kernel,by decide +kernel⟩
abbrev s_measure:Stmt:=top 6
theorem qdu:qao ["a", "b"] ["a", "b"] (qad s_measure):=⟨rfl,rfl,rfl,by decide +kernel,rfl,by decide +kernel,by decide +kernel⟩
abbrev s_is_share:Stmt:=top 7
theorem qc2:qao ["thing", "top", "bottom"] ["thing"] (qad s_is_share):=⟨rfl,rfl,rfl,by decide +kernel,rfl,by decide +kernel,by decide +kernel⟩
abbrev s_plus:Stmt:=top 8
theorem qgR:qao ["a", "b", "common", "top", "rest"] ["a", "b"] (qad s_plus):=⟨rfl,rfl,rfl,by decide +kernel,rfl,by decide +kernel,by decide +kernel⟩
abbrev s_total:Stmt:=top 9
theorem qfx:qao ["some", "found", "one"] ["some"] (qad s_total):=⟨rfl,rfl,rfl,by decide +kernel,rfl,by decide +kernel,by decide +kernel⟩
abbrev s_is_spread:Stmt:=top 11
theorem qcE:qao ["thing", "loads"] ["thing"] (qad s_is_spread):=⟨rfl,rfl,rfl,by decide +kernel,rfl,by decide +kernel,by decide +kernel⟩
abbrev s_are_alike:Stmt:=top 12
theorem qcF:qao ["loads"] ["loads"] (qad s_are_alike):=⟨rfl,rfl,rfl,by decide +kernel,rfl,by decide +kernel,by decide +kernel⟩
abbrev s_are_rising:Stmt:=top 13
theorem qcc:qao ["things"] ["things"] (qad s_are_rising):=⟨rfl,rfl,rfl,by decide +kernel,rfl,by decide +kernel,by decide +kernel⟩
abbrev s_are_one:Stmt:=top 14
theorem qdw:qao ["things"] ["things"] (qad s_are_one):=⟨rfl,rfl,rfl,by decide +kernel,rfl,by decide +kernel,by decide +kernel⟩
abbrev s_l_pen:Stmt:=top 16
theorem qfy:qao ["_law_script"] ["_law_script"] (qad s_l_pen):=⟨rfl,rfl,rfl,by decide +kernel,rfl,by decide +kernel,by decide +kernel⟩
abbrev s_l_draw:Stmt:=top 17
theorem qei:qao ["_law_pen_here", "_law_many", "_law_at", "_law_cell", "_law_number", "_law_digit"] ["_law_pen_here", "_law_many"] (qad s_l_draw):=⟨rfl,rfl,rfl,by decide +kernel,rfl,by decide +kernel,by decide +kernel⟩
abbrev s_l_measure:Stmt:=top 18
theorem qcA:qao ["_law_a", "_law_b"] ["_law_a", "_law_b"] (qad s_l_measure):=⟨rfl,rfl,rfl,by decide +kernel,rfl,by decide +kernel,by decide +kernel⟩
abbrev s_l_lowest:Stmt:=top 19
theorem qc0:qao ["_law_top", "_law_bottom", "_law_by"] ["_law_top", "_law_bottom"] (qad s_l_lowest):=⟨rfl,rfl,rfl,by decide +kernel,rfl,by decide +kernel,by decide +kernel⟩
abbrev s_l_load:Stmt:=top 20
theorem qeh:qao ["_law_pen_here", "_law_n", "_law_balls", "_law_found", "_law_way", "_law_at", "_law_ball", "_law_box"] ["_law_pen_here", "_law_n", "_law_balls"] (qad s_l_load):=⟨rfl,rfl,rfl,by decide +kernel,rfl,by decide +kernel,by decide +kernel⟩
abbrev s_l_counted:Stmt:=top 21
theorem qcC:qao ["_law_pen_here", "_law_n", "_law_balls", "_law_found", "_law_k", "_law_load_here"] ["_law_pen_here", "_law_n", "_law_balls"] (qad s_l_counted):=⟨rfl,rfl,rfl,by decide +kernel,rfl,by decide +kernel,by decide +kernel⟩
abbrev s_l_spread:Stmt:=top 22
theorem qcY:qao ["_law_found", "_law_whole"] ["_law_found"] (qad s_l_spread):=⟨rfl,rfl,rfl,by decide +kernel,rfl,by decide +kernel,by decide +kernel⟩
abbrev s_l_is_share:Stmt:=top 23
theorem qcb:qao ["_law_thing", "_law_number"] ["_law_thing"] (qad s_l_is_share):=⟨rfl,rfl,rfl,by decide +kernel,rfl,by decide +kernel,by decide +kernel⟩
abbrev s_l_are_one:Stmt:=top 24
theorem qcD:qao ["_law_some", "_law_one", "_law_top", "_law_bottom"] ["_law_some"] (qad s_l_are_one):=⟨rfl,rfl,rfl,by decide +kernel,rfl,by decide +kernel,by decide +kernel⟩
abbrev s_l_is_load:Stmt:=top 25
theorem qcB:qao ["_law_thing", "_law_at", "_law_number"] ["_law_thing"] (qad s_l_is_load):=⟨rfl,rfl,rfl,by decide +kernel,rfl,by decide +kernel,by decide +kernel⟩
abbrev s_l_due:Stmt:=top 26
theorem qfz:qao ["_law_thing", "_law_pair", "_law_one", "_law_other"] ["_law_thing"] (qad s_l_due):=⟨rfl,rfl,rfl,by decide +kernel,rfl,by decide +kernel,by decide +kernel⟩
abbrev s_l_all:Stmt:=top 27
theorem qdO:qao ["_law_n", "_law_balls", "_law_most", "_law_found", "_law_first"] ["_law_n", "_law_balls", "_law_most"] (qad s_l_all):=⟨rfl,rfl,rfl,by decide +kernel,rfl,by decide +kernel,by decide +kernel⟩
abbrev s_l_odd_load:Stmt:=top 28
theorem qca:qao ["_law_pen_here", "_law_load_here", "_law_way", "_law_at", "_law_odd", "_law_some"] ["_law_pen_here", "_law_load_here"] (qad s_l_odd_load):=⟨rfl,rfl,rfl,by decide +kernel,rfl,by decide +kernel,by decide +kernel⟩
abbrev s_l_odd_share:Stmt:=top 29
theorem qbV:qao ["_law_pen_here", "_law_one", "_law_way", "_law_top", "_law_bottom"] ["_law_pen_here", "_law_one"] (qad s_l_odd_share):=⟨rfl,rfl,rfl,by decide +kernel,rfl,by decide +kernel,by decide +kernel⟩
abbrev s_l_spoilt:Stmt:=top 30
theorem qcZ:qao ["_law_pen_here", "_law_spread_here", "_law_way", "_law_at", "_law_to", "_law_some", "_law_load_here", "_law_one"] ["_law_pen_here", "_law_spread_here"] (qad s_l_spoilt):=⟨rfl,rfl,rfl,by decide +kernel,rfl,by decide +kernel,by decide +kernel⟩
abbrev qdP:Stmt:=top 31
theorem qja:qao ["_law_script", "_law_pen_here", "_law_go", "_law_spot", "_law_loads", "_law_many", "_law_n", "_law_spread_here", "_law_twice", "_law_thing", "_law_balls", "_law_kept", "_law_found"] ["_law_script"] (qad qdP):=⟨rfl,rfl,rfl,by decide +kernel,rfl,by decide +kernel,by decide +kernel⟩
section
variable {P:Program}{w:World}{K:PySem.W.Frag}{mg:Str->Option Value}{base:Heap}
theorem qfK {ds:List PyData}(h:ds.length≠2):qbB (.tuple ds)=false:=by
 match ds,h with
 | [],_=>rfl
 | [_],_=>simp [qbB]
 | [_,_],h=>exact absurd rfl h
 | _ :: _ :: _ :: _,_=>simp [qbB]
theorem qdI {H:Hp}{xs:List V}{ds:List PyData}(h:qam H xs ds)(hl:xs.length=2):∃ x1 x2 d1 d2,xs=[x1,x2]/\ds=[d1,d2]/\qaP H x1 d1/\qaP H x2 d2:=by
 match h,hl with
 | .cons h1 (.cons h2 .nil),_=>exact ⟨_,_,_,_,rfl,rfl,h1,h2⟩
theorem qji {n:Nat}{m:Int}(c:(!decide (V.int (n:Int)=V.int m))=true):(n:Int)≠m:=by
 intro h
 rw [h] at c
 simp at c
theorem len_eq {n m:Nat}(c:¬ (!decide (V.int (n:Int)=V.int (m:Int)))=true):n=m:=by
 have:V.int (n:Int)=V.int (m:Int):=by simpa using c
 have:=V.int.inj this
 omega
theorem qls {C R:Int->Hp->Prop}{G:Prop}(main:(∀ a h,C a h->R a h)->G)(key:∀ a h,C a h->R a h):G:=main key
theorem qga (T:Txt mg)(F:FunAt K mg "measure" ["a", "b"] s_measure):Cal P w K mg base "measure" ["a", "b"] 1 qcW:=by
 have S:=qdu
 refine F.cal qdu (fun vs H Q E h=>?_) (fun f cdv A outer s H vs Q E hr h=>?_)
 ·obtain ⟨a,b,rfl,_⟩:=h; rfl
 obtain ⟨a,b,rfl,q⟩:=h
 refine ⟨_,(@pK _ _ _ _ _ (@qgX _ _ (0) (1) _ _ _ _ _ _ _ _ _ _ _ ⋯ (by exact S.nd) ⋯ ⋯ (by decide) ⋯ ⋯ (@pC _ _ _ _ _ (@qab _ _ _ _ _ _ _ _ _ qbU ⋯ (by exact T.z_abs) (by exact qdF) (@pC _ _ _ _ _ (pv 0) pN ⋯) ⋯ ⋯ ⋯ ⋯) (@pC _ _ _ _ _ (@qab _ _ _ _ _ _ _ _ _ qbU ⋯ (by exact T.z_abs) (by exact qdF) (@pC _ _ _ _ _ (pv 1) pN ⋯) ⋯ ⋯ ⋯ ⋯) pN ⋯) ⋯) ⋯ ⋯) (@pK _ _ _ _ _ (@qfD _ _ _ _ _ _ (by exact PassesOwn.never) (@qaq _ _ _ _ _ _ _ _ qeo (pv 1) pI (by exact (qal _))) (@pO _ _ _ (@qgX _ _ (0) (1) _ _ _ _ _ _ _ _ _ _ _ ⋯ (by exact S.nd) ⋯ ⋯ (by decide) ⋯ ⋯ (@pC _ _ _ _ _ (pv 1) (@pC _ _ _ _ _ (@pP _ _ _ _ _ _ _ _ qbG (pv 0) (pv 1)) pN ⋯) ⋯) ⋯ ⋯))) (@pO _ _ _ (@qag _ _ _ _ (pv 0))))),?_⟩
 refine ⟨_,rfl,_,rfl,_,rfl,_,rfl,_,_,rfl,?_⟩
 refine qfs (fun σ H'=>H'=H/\∃ x y:Int,σ=[some (.int x),some (.int y)]/\0≤x/\0≤y/\gI x y=gI a b) (fun σ _=>match σ with | [_,some (.int y)]=>y.toNat | _=>0) ⟨rfl,_,_,rfl,?_,?_,?_⟩ ?_ ?_
 ·split <;> omega
 ·split <;> omega
 ·exact qlH a b
 ·rintro σ H' ⟨rfl,x,y,rfl,hx,hy,hg⟩
  refine ⟨_,rfl,rfl,_,rfl,?_⟩
  refine ite2 (fun c=>?_) (fun c=>?_)
  ·have hy0:0 < y:=by
    have:¬ (V.int y=V.int 0):=by simpa using c
    have:y≠0:=fun e=>this (by rw [e])
    omega
   refine ⟨_,rfl,_,rfl,_,rfl,_,_,rfl,rfl,hy0,_,_,rfl,?_⟩
   have hm:=Int.emod_nonneg x (show y≠0 by omega)
   have hl:=Int.emod_lt_of_pos x hy0
   refine ⟨⟨rfl,_,_,rfl,hy,hm,?_⟩,?_⟩
   ·rw [qhC hx]; exact hg
   ·show (x % y).toNat < y.toNat
    omega
  ·have hy0:y=0:=by
    have:V.int y=V.int 0:=by simpa using c
    exact V.int.inj this
   subst hy0
   refine ⟨_,rfl,?_⟩
   rw [qhB hx] at hg
   rw [hg]
   exact q
 ·rintro σ H' Q1 Q2 hQ ⟨v,e,h1,b1,e2,h2⟩
  exact ⟨v,e,h1,b1,e2,hQ _ _ h2⟩
theorem qka (C_measure:Cal P w K mg base "measure" ["a", "b"] 1 qcW)(F:FunAt K mg "plus" ["a", "b"] s_plus):Cal P w K mg base "plus" ["a", "b"] 2 qi5:=by
 have S:=qgR
 refine F.cal qgR (fun vs H Q E h=>?_) (fun f cdv A outer s H vs Q E hr h=>?_)
 ·obtain ⟨a,b,_,_,rfl,_⟩:=h; rfl
 obtain ⟨_,_,q,r,rfl,⟨pa,rfl,ha⟩,⟨pb,rfl,hb⟩,⟨b1,b2⟩,⟨b3,b4⟩,_,k⟩:=h
 refine ⟨_,(@pK _ _ _ _ _ (@pZ _ _ (2) _ _ _ _ (by exact S.nd) ⋯ ⋯ (@cc _ _ _ _ _ _ _ _ _ _ (by exact C_measure) (by exact (hr.mono (by decide))) (@pC _ _ _ _ _ (@qaA _ _ _ _ _ _ _ qay (pv 0) pI (by exact (fun _ _=>rfl))) (@pC _ _ _ _ _ (@qaA _ _ _ _ _ _ _ qay (pv 1) pI (by exact (fun _ _=>rfl))) pN ⋯) ⋯) ⋯ ⋯ ⋯ ⋯) ⋯ ⋯) (@pK _ _ _ _ _ (@pZ _ _ (3) _ _ _ _ (by exact S.nd) ⋯ ⋯ (@pP _ _ _ _ _ _ _ _ qaJ (@pP _ _ _ _ _ _ _ _ qct (@qaA _ _ _ _ _ _ _ qay (pv 0) pI (by exact (fun _ _=>rfl))) (@pP _ _ _ _ _ _ _ _ qbA (@qaA _ _ _ _ _ _ _ qay (pv 1) pI (by exact (fun _ _=>rfl))) (pv 2))) (@pP _ _ _ _ _ _ _ _ qct (@qaA _ _ _ _ _ _ _ qay (pv 1) pI (by exact (fun _ _=>rfl))) (@pP _ _ _ _ _ _ _ _ qbA (@qaA _ _ _ _ _ _ _ qay (pv 0) pI (by exact (fun _ _=>rfl))) (pv 2)))) ⋯ ⋯) (@pK _ _ _ _ _ (@pZ _ _ (4) _ _ _ _ (by exact S.nd) ⋯ ⋯ (@cc _ _ _ _ _ _ _ _ _ _ (by exact C_measure) (by exact (hr.mono (by decide))) (@pC _ _ _ _ _ (pv 3) (@pC _ _ _ _ _ (pv 2) pN ⋯) ⋯) ⋯ ⋯ ⋯ ⋯) ⋯ ⋯) (@pO _ _ _ (@qag _ _ _ _ (@qar _ _ _ _ _ (@pC _ _ _ _ _ (@pP _ _ _ _ _ _ _ _ qbA (pv 3) (pv 4)) (@pC _ _ _ _ _ (@pP _ _ _ _ _ _ _ _ qct (@pP _ _ _ _ _ _ _ _ qbA (@qaA _ _ _ _ _ _ _ qay (pv 0) pI (by exact (fun _ _=>rfl))) (pv 2)) (@pP _ _ _ _ _ _ _ _ qbA (@qaA _ _ _ _ _ _ _ qay (pv 1) pI (by exact (fun _ _=>rfl))) (pv 4))) pN ⋯) ⋯))))))),?_⟩
 have c0:0 < gI q.den r.den:=qfh (qhM q)
 have cb:Bt 3000 (gI q.den r.den):=b2.gl (qhM q)
 refine ⟨_,rfl,pa,_,_,_,rfl,rfl,SqT.of ha,rfl,_,rfl,pb,_,_,_,rfl,rfl,SqT.of hb,rfl,_,_,rfl,?_⟩
 refine ⟨_,rfl,pa,_,_,_,rfl,rfl,SqT.of ha,rfl,_,rfl,pb,_,_,_,rfl,rfl,SqT.of hb,rfl,_,rfl,_,_,rfl,rfl,⟨c0,cb.mono (by decide)⟩,_,_,rfl,rfl,⟨b1.mono (by decide),(b4.ediv c0).mono (by decide)⟩,
  _,rfl,pb,_,_,_,rfl,rfl,SqT.of hb,rfl,_,rfl,pa,_,_,_,rfl,rfl,SqT.of ha,rfl,_,rfl,_,_,rfl,rfl,⟨c0,cb.mono (by decide)⟩,_,_,rfl,rfl,⟨b3.mono (by decide),(b2.ediv c0).mono (by decide)⟩,_,_,rfl,rfl,?_⟩
 refine ⟨_,rfl,_,rfl,_,_,rfl,?_⟩
 have r0:0 < gI (q.num * ((r.den:Int) / gI q.den r.den) + r.num * ((q.den:Int) / gI q.den r.den)) (gI q.den r.den):=qbo (by omega)
 have rb:Bt 8000 (gI (q.num * ((r.den:Int) / gI q.den r.den) + r.num * ((q.den:Int) / gI q.den r.den)) (gI q.den r.den)):=(cb.gr (by omega)).mono (by decide)
 refine ⟨_,rfl,_,rfl,_,_,rfl,rfl,⟨r0,rb⟩,_,rfl,pa,_,_,_,rfl,rfl,SqT.of ha,rfl,_,rfl,_,_,rfl,rfl,⟨c0,cb.mono (by decide)⟩,
  _,rfl,pb,_,_,_,rfl,rfl,SqT.of hb,rfl,_,rfl,_,_,rfl,rfl,⟨r0,rb⟩,_,_,rfl,rfl,⟨(b2.ediv c0).mono (by decide),(b4.ediv r0).mono (by decide)⟩,(by show 2≤sizeLine; decide),fun p hp=>?_⟩
 have e:=qjT q r _ _ _ rfl rfl rfl
 exact k _ _ (sN hp _) ⟨p,rfl,by rw [uS]; dsimp only; rw [e.1,e.2]⟩
theorem qiy (C_plus:Cal P w K mg base "plus" ["a", "b"] 2 qi5)(F:FunAt K mg "total" ["some"] s_total):Cal P w K mg base "total" ["some"] 3 qgL:=by
 have S:=qfx
 refine F.cal qfx (fun vs H Q E h=>?_) (fun f cdv A outer s H vs Q E hr h=>?_)
 ·obtain ⟨l,_,_,rfl,_⟩:=h; rfl
 obtain ⟨l,xs,qs,rfl,hl,hs,hb,hp,k⟩:=h
 refine ⟨_,(@pK _ _ _ _ _ (@pZ _ _ (1) _ _ _ _ (by exact S.nd) ⋯ ⋯ (@qar _ _ _ _ _ (@pC _ _ _ _ _ pI (@pC _ _ _ _ _ pI pN ⋯) ⋯)) ⋯ ⋯) (@pK _ _ _ _ _ (@qbK _ _ _ _ _ _ _ _ (by exact PassesOwn.never) ⋯ (@qbe _ _ _ _ (pv 0)) (@pG _ _ (2) _ (by exact S.nd) ⋯ ⋯ ⋯) (@pO _ _ _ (@pZ _ _ (1) _ _ _ _ (by exact S.nd) ⋯ ⋯ (@cc _ _ _ _ _ _ _ _ _ _ (by exact C_plus) (by exact (hr.mono (by decide))) (@pC _ _ _ _ _ (pv 1) (@pC _ _ _ _ _ (pv 2) pN ⋯) ⋯) ⋯ ⋯ ⋯ ⋯) ⋯ ⋯)) ⋯) (@pO _ _ _ (@qag _ _ _ _ (pv 1))))),?_⟩
 refine ⟨(by show 2≤sizeLine; decide),fun p hp0=>?_⟩
 have s0:=sN hp0 (.tup [.int 0,.int 1])
 refine ⟨_,rfl,l,rfl,⟨_,SqL.of (s0 _ _ hl)⟩,qd1 (xs:=xs) (fun i σ H2=>∃ (v:V) (u:Option V),σ=[some (.ref l),some v,u]/\Same H H2/\ShAt H2 v ((qs.take i).foldl (· + ·) 0))
  ⟨_,_,rfl,s0,p,rfl,uS⟩ (fun i σ H2 _ ⟨_,_,_,s2,_⟩=>SqL.of (s2 _ _ hl)) ?_ ?_⟩
 ·rintro i y σ H2 hi ⟨v,u,rfl,s2,hv⟩
  obtain ⟨q,hq,hy⟩:=Paired.at' hs hi
  refine ⟨_,rfl,_,rfl,_,_,_,q,rfl,hv,hy.same s2,hp i,hb q (List.mem_of_getElem? hq),trivial,fun v' H3 s3 hv'=>?_⟩
  refine ⟨_,_,rfl,s2.trans s3,?_⟩
  rw [qeA hq]
  exact hv'
 ·rintro σ H2 ⟨v,u,rfl,s2,hv⟩
  refine ⟨_,rfl,?_⟩
  have e:qs.length=xs.length:=(Paired.length hs).symm
  rw [<- e,List.take_length] at hv
  exact k _ _ s2 hv
theorem qlh (F:FunAt K mg "_law_pen" ["_law_script"] s_l_pen):Cal P w K mg base "_law_pen" ["_law_script"] 1 (qkZ K):=by
 have S:=qfy
 refine F.cal qfy (fun vs H Q E h=>?_) (fun f cdv A outer s H vs Q E hr h=>?_)
 ·obtain ⟨a,ns,rfl,_⟩:=h; rfl
 obtain ⟨a,ns,rfl,ha,k⟩:=h
 obtain ⟨ms,hms⟩:=qiY ns none (some 63)
 refine ⟨_,(@pO _ _ _ (@qag _ _ _ _ (@qjY _ _ _ _ _ (@qdT _ _ _ _ _ _ _ _ _ qbg (@qas _ _ _ _ _ _ _ _ _ _ qaR (pv 0) qaC (@qaz _ _ _ pI)) (@qdT _ _ _ _ _ _ _ _ _ qbg pI (@qdT _ _ _ _ _ _ _ _ _ qbg pI qjR))) ⋯ ⋯ (by simp) (by decide)))),?_⟩
 intro p hp
 have s1:Same H (upd H p (.dK [])):=sN hp _
 refine ⟨_,rfl,_,rfl,a,_,rfl,s1.seq ha,fun c hc=>?_⟩
 have hpc:p≠c:=fun e=>by rw [<- e,uS] at hc; cases hc
 refine ⟨by rw [uE hpc]; exact uS,[(.inr "cells",.ref c),(.inr "at",.int 0),(.inr "left",.int 0)],rfl,(by show 3≤15; decide),?_⟩
 refine k p _ (fun b o e=>?_) ⟨c,ms,0,0,?_,?_,by omega,by omega⟩
 ·rw [uE (qaf e hp),uE,uE (qaf e hp)]
  ·exact e
  ·intro z
   subst z
   rw [uE (Ne.symm hpc),e] at hc
   cases hc
 ·rw [uS]
  rfl
 ·rw [uE (Ne.symm hpc),uS,hms]
theorem qe3 (F:FunAt K mg "_law_measure" ["_law_a", "_law_b"] s_l_measure):Cal P w K mg base "_law_measure" ["_law_a", "_law_b"] 1 qco:=by
 have S:=qcA
 refine F.cal qcA (fun vs H Q E h=>?_) (fun f cdv A outer s H vs Q E hr h=>?_)
 ·obtain ⟨a,b,rfl,_⟩:=h; rfl
 obtain ⟨a,b,rfl,ha,hb,q⟩:=h
 refine ⟨_,(@pK _ _ _ _ _ (@qfD _ _ _ _ _ _ (by exact PassesOwn.never) (@qaq _ _ _ _ _ _ _ _ qeq (pv 1) pI (by exact (qal _))) (@pO _ _ _ (@qgX _ _ (0) (1) _ _ _ _ _ _ _ _ _ _ _ ⋯ (by exact S.nd) ⋯ ⋯ (by decide) ⋯ ⋯ (@pC _ _ _ _ _ (pv 1) (@pC _ _ _ _ _ (@pP _ _ _ _ _ _ _ _ qbG (pv 0) (pv 1)) pN ⋯) ⋯) ⋯ ⋯))) (@pO _ _ _ (@qag _ _ _ _ (pv 0)))),?_⟩
 refine qfs (fun σ H'=>H'=H/\∃ x y:Int,σ=[some (.int x),some (.int y)]/\0≤x/\0≤y/\gI x y=gI a b) (fun σ _=>match σ with | [_,some (.int y)]=>y.toNat | _=>0) ⟨rfl,_,_,rfl,ha,hb,rfl⟩ ?_ ?_
 ·rintro σ H' ⟨rfl,x,y,rfl,hx,hy,hg⟩
  refine ⟨_,rfl,_,_,rfl,rfl,_,rfl,?_⟩
  refine ite2 (fun c=>?_) (fun c=>?_)
  ·have hy0:0 < y:=of_decide_eq_true c
   refine ⟨_,rfl,_,rfl,_,rfl,_,_,rfl,rfl,hy0,_,_,rfl,?_⟩
   have hm:=Int.emod_nonneg x (show y≠0 by omega)
   have hl:=Int.emod_lt_of_pos x hy0
   refine ⟨⟨rfl,_,_,rfl,hy,hm,?_⟩,?_⟩
   ·rw [qhC hx]; exact hg
   ·show (x % y).toNat < y.toNat
    omega
  ·have hy0:y=0:=by
    have:¬ 0 < y:=by simpa using c
    omega
   subst hy0
   refine ⟨_,rfl,?_⟩
   rw [qhB hx] at hg
   rw [hg]
   exact q
 ·rintro σ H' Q1 Q2 hQ ⟨v,e,h0,b0,h1,h2,b1,e2,h3⟩
  exact ⟨v,e,h0,b0,h1,h2,b1,e2,hQ _ _ h3⟩
theorem qg9 (T:Txt2 mg)(F:FunAt K mg "is_whole" ["thing"] s_is_whole):Cal P w K mg base "is_whole" ["thing"] 1 qdK:=by
 have S:=qc1
 refine F.cal qc1 (fun vs H Q E h=>?_) (fun f cdv A outer s H vs Q E hr h=>?_)
 ·obtain ⟨a,d,rfl,_⟩:=h; rfl
 obtain ⟨a,d,rfl,hd,k⟩:=h
 refine ⟨_,(@pO _ _ _ (@qag _ _ _ _ (@qce _ _ _ _ _ _ _ (@qab _ _ _ _ _ _ _ _ _ qaH ⋯ (by exact T.z_isinstance) (by exact qae) (@pC _ _ _ _ _ (pv 0) (@pC _ _ _ _ _ (@qaU _ _ (.ty "int") _ _ ⋯ (by exact T.z_int) (by exact qeL) ⋯ ⋯ ⋯) pN ⋯) ⋯) ⋯ ⋯ ⋯ ⋯) (@qcH _ _ _ _ _ (@qje _ _ _ _ (@qab _ _ _ _ _ _ _ _ _ qaH ⋯ (by exact T.z_isinstance) (by exact qae) (@pC _ _ _ _ _ (pv 0) (@pC _ _ _ _ _ (@qaU _ _ (.ty "bool") _ _ ⋯ (by exact T.z_bool) (by exact qd6) ⋯ ⋯ ⋯) pN ⋯) ⋯) ⋯ ⋯ ⋯ ⋯)))))),?_⟩
 obtain ⟨t,ty,e1,e2,_,_⟩:=tyOf (K:=K) hd
 refine ⟨_,rfl,_,_,_,_,rfl,ty,e1,_,rfl,?_⟩
 cases d with
 | int i=>exact iteT ⟨_,rfl,_,_,_,_,rfl,ty,e2,_,rfl,k⟩
 | bool b=>exact iteT ⟨_,rfl,_,_,_,_,rfl,ty,e2,_,rfl,k⟩
 | _=>exact iteF k
theorem qe6 (T:Txt2 mg)(C_is_whole:Cal P w K mg base "is_whole" ["thing"] 1 qdK)(C_measure:Cal P w K mg base "measure" ["a", "b"] 1 qcW)(F:FunAt K mg "is_share" ["thing"] s_is_share):Cal P w K mg base "is_share" ["thing"] 2 qdL:=by
 have S:=qc2
 refine F.cal qc2 (fun vs H Q E h=>?_) (fun f cdv A outer s H vs Q E hr h=>?_)
 ·obtain ⟨a,d,rfl,_⟩:=h; rfl
 obtain ⟨a,d,rfl,hd,k⟩:=h
 refine ⟨_,(@pK _ _ _ _ _ (@qa8 _ _ _ _ _ _ _ _ (@PW.pt _ _ _ (@qbq _ _ _ _ _ _ _ (@qa1 _ _ _ _ (@qaM _ _ _ (@qab _ _ _ _ _ _ _ _ _ qaH ⋯ (by exact T.z_isinstance) (by exact qae) (@pC _ _ _ _ _ (pv 0) (@pC _ _ _ _ _ (@qaU _ _ (.ty "tuple") _ _ ⋯ (by exact T.z_tuple) (by exact qbp) ⋯ ⋯ ⋯) pN ⋯) ⋯) ⋯ ⋯ ⋯ ⋯) ⋯)) (@qbm _ _ _ _ (@qaq _ _ _ _ _ _ _ _ qeo (@qab _ _ _ _ _ _ _ _ _ qaj ⋯ (by exact T.z_len) (by exact qbd) (@pC _ _ _ _ _ (pv 0) pN ⋯) ⋯ ⋯ ⋯ ⋯) pI (by exact (qal _)))))) (@pO _ _ _ (@qag _ _ _ _ qbi)) qau) (@pK _ _ _ _ _ (@qcG _ _ _ _ _ _ (pv 0) (@qbW _ _ _ _ _ _ ⋯ (@qai _ _ _ _ _ (@pG _ _ (1) _ (by exact S.nd) ⋯ ⋯ ⋯) (@qai _ _ _ _ _ (@pG _ _ (2) _ (by exact S.nd) ⋯ ⋯ ⋯) qaX ⋯) ⋯) ⋯ ⋯) ⋯ ⋯ ⋯) (@pK _ _ _ _ _ (@qa8 _ _ _ _ _ _ _ _ (@PW.pt _ _ _ (@qbq _ _ _ _ _ _ _ (@qa1 _ _ _ _ (@qaM _ _ _ (@cc _ _ _ _ _ _ _ _ _ _ (by exact C_is_whole) (by exact (hr.mono (by decide))) (@pC _ _ _ _ _ (pv 1) pN ⋯) ⋯ ⋯ ⋯ ⋯) ⋯)) (@qbq _ _ _ _ _ _ _ (@qa1 _ _ _ _ (@qaM _ _ _ (@cc _ _ _ _ _ _ _ _ _ _ (by exact C_is_whole) (by exact (hr.mono (by decide))) (@pC _ _ _ _ _ (pv 2) pN ⋯) ⋯ ⋯ ⋯ ⋯) ⋯)) (@qbm _ _ _ _ (@qaq _ _ _ _ _ _ _ _ qep (pv 2) pI (by exact (qal _))))))) (@pO _ _ _ (@qag _ _ _ _ qbi)) qau) (@pO _ _ _ (@qag _ _ _ _ (@qa4 _ _ _ _ _ _ _ _ qdq (@cc _ _ _ _ _ _ _ _ _ _ (by exact C_measure) (by exact (hr.mono (by decide))) (@pC _ _ _ _ _ (pv 1) (@pC _ _ _ _ _ (pv 2) pN ⋯) ⋯) ⋯ ⋯ ⋯ ⋯) pI (by exact (qal _)))))))),?_⟩
 obtain ⟨t,ty,_,_,e3,_⟩:=tyOf (K:=K) hd
 refine ⟨_,rfl,_,_,_,_,rfl,ty,e3,_,rfl,?_⟩
 clear ty
 cases hd with
 | @tup p xs ds hp hl =>
  refine iteF ?_
  refine ⟨_,rfl,p,xs,rfl,.inr (SqT.of hp),?_⟩
  refine ⟨rfl,_,rfl,?_⟩
  refine ite2 (fun c=>?_) (fun c=>?_)
  ·rw [qfK (fun z=>qji c (by rw [hl.length,z]; rfl))] at k
   exact k
  obtain ⟨x1,x2,d1,d2,rfl,rfl,h1,h2⟩:=qdI hl (len_eq (m:=2) c)
  refine ⟨_,rfl,p,_,rfl,SqT.of hp,rfl,_,_,rfl,_,_,rfl,rfl,?_⟩
  refine ⟨_,rfl,_,d1,rfl,h1,_,rfl,?_⟩
  cases h1 with
  | int i =>
   refine iteF ⟨_,rfl,_,d2,rfl,h2,_,rfl,?_⟩
   cases h2 with
   | int j =>
    refine iteF ⟨_,rfl,_,_,rfl,rfl,_,rfl,?_⟩
    refine ite2 (fun c1=>?_) (fun c1=>?_)
    ·have:qbB (.tuple [.int i,.int j])=false:=by
      have h:j < 1:=of_decide_eq_true c1
      simp [qbB]; omega
     rw [this] at k
     exact k
    ·refine ⟨_,rfl,_,rfl,_,_,rfl,rfl,?_⟩
     have:qbB (.tuple [.int i,.int j])=decide (V.int (gI i j)=V.int 1):=by
      have h:¬ j < 1:=by simpa using c1
      have h':(1:Int)≤j:=by omega
      simp [qbB,h']
     rw [this] at k
     exact k
   | _=>exact iteT k
  | _=>exact iteT k
 | _=>exact iteT k
theorem qiA (T:Txt mg)(F:FunAt K mg "_law_draw" ["_law_pen_here", "_law_many"] s_l_draw):Cal P w K mg base "_law_draw" ["_law_pen_here", "_law_many"] 1 qcX:=by
 have S:=qei
 refine F.cal qei (fun vs H Q E h=>?_) (fun f cdv A outer s H vs Q E hr h=>?_)
 ·obtain ⟨p,m,n,rfl,_⟩:=h; rfl
 obtain ⟨p,m,n,rfl,⟨c,ns,a,l,hp,hc,ha0,han⟩,hn,hm,hm2,k⟩:=h
 have hu:=qkq hr
 have hcp:c≠p:=qiD hc hp (by intro z; cases z)
 refine ⟨_,(@pK _ _ _ _ _ (@qa8 _ _ _ _ _ _ _ _ (@qaq _ _ _ _ _ _ _ _ qeq (@qbz _ _ _ _ _ _ (by exact hu) (pv 0) qbg (by exact (fun _ _=>rfl))) pI (by exact (qal _))) (@pK _ _ _ _ _ (@pZ _ _ (5) _ _ _ _ (by exact S.nd) ⋯ ⋯ (@pP _ _ _ _ _ _ _ _ qbG (@qbz _ _ _ _ _ _ (by exact hu) (pv 0) qbg (by exact (fun _ _=>rfl))) (pv 1)) ⋯ ⋯) (@pK _ _ _ _ _ (@qdS _ _ _ _ _ _ _ _ _ (by exact hu) (pv 0) qbg (@pP _ _ _ _ _ _ _ _ qe2 (@qbz _ _ _ _ _ _ (by exact hu) (pv 0) qbg (by exact (fun _ _=>rfl))) (pv 1)) ⋯) (@pO _ _ _ (@qag _ _ _ _ (pv 5))))) qau) (@pK _ _ _ _ _ (@pZ _ _ (2) _ _ _ _ (by exact S.nd) ⋯ ⋯ (@qbz _ _ _ _ _ _ (by exact hu) (pv 0) qbg (by exact (fun _ _=>rfl))) ⋯ ⋯) (@pK _ _ _ _ _ (@qdS _ _ _ _ _ _ _ _ _ (by exact hu) (pv 0) qbg (@pP _ _ _ _ _ _ _ _ qaJ (pv 2) pI) ⋯) (@pK _ _ _ _ _ (@pZ _ _ (3) _ _ _ _ (by exact S.nd) ⋯ ⋯ (@pP _ _ _ _ _ _ _ _ qaJ (@pP _ _ _ _ _ _ _ _ qbX (@pP _ _ _ _ _ _ _ _ qbX pI (pv 2)) (pv 2)) pI) ⋯ ⋯) (@pK _ _ _ _ _ (@qa8 _ _ _ _ _ _ _ _ (@qaq _ _ _ _ _ _ _ _ qeq (@qab _ _ _ _ _ _ _ _ _ qaj ⋯ (by exact T.z_len) (by exact qbd) (@pC _ _ _ _ _ (@qbz _ _ _ _ _ _ (by exact hu) (pv 0) qbg (by exact (fun _ _=>rfl))) pN ⋯) ⋯ ⋯ ⋯ ⋯) pI (by exact (qal _))) (@pO _ _ _ (@pZ _ _ (3) _ _ _ _ (by exact S.nd) ⋯ ⋯ (@qaA _ _ _ _ _ _ _ qa0 (@qbz _ _ _ _ _ _ (by exact hu) (pv 0) qbg (by exact (fun _ _=>rfl))) (@pP _ _ _ _ _ _ _ _ qbG (pv 2) (@qab _ _ _ _ _ _ _ _ _ qaj ⋯ (by exact T.z_len) (by exact qbd) (@pC _ _ _ _ _ (@qbz _ _ _ _ _ _ (by exact hu) (pv 0) qbg (by exact (fun _ _=>rfl))) pN ⋯) ⋯ ⋯ ⋯ ⋯)) (by exact (fun _ _=>rfl))) ⋯ ⋯)) qau) (@pK _ _ _ _ _ (@qa8 _ _ _ _ _ _ _ _ (@PW.pt _ _ _ (@qfC _ _ _ _ _ _ _ (@qaq _ _ _ _ _ _ _ _ qep (pv 2) (@qab _ _ _ _ _ _ _ _ _ qaj ⋯ (by exact T.z_len) (by exact qbd) (@pC _ _ _ _ _ (@qbz _ _ _ _ _ _ (by exact hu) (pv 0) qbg (by exact (fun _ _=>rfl))) pN ⋯) ⋯ ⋯ ⋯ ⋯) (by exact (qal _))) (@qeZ _ _ _ _ (@qaq _ _ _ _ _ _ _ _ qj5 (@qab _ _ _ _ _ _ _ _ _ qbU ⋯ (by exact T.z_abs) (by exact qdF) (@pC _ _ _ _ _ (pv 3) pN ⋯) ⋯ ⋯ ⋯ ⋯) (@pP _ _ _ _ _ _ _ _ qld pI pI) (by exact (qal _)))))) (@pK _ _ _ _ _ (@qdS _ _ _ _ _ _ _ _ _ (by exact hu) (pv 0) qbg (@pP _ _ _ _ _ _ _ _ qe2 (@qab _ _ _ _ _ _ _ _ _ qbU ⋯ (by exact T.z_abs) (by exact qdF) (@pC _ _ _ _ _ (pv 3) pN ⋯) ⋯ ⋯ ⋯ ⋯) (pv 1)) ⋯) (@pO _ _ _ (@qag _ _ _ _ (@pP _ _ _ _ _ _ _ _ qbG (@qab _ _ _ _ _ _ _ _ _ qbU ⋯ (by exact T.z_abs) (by exact qdF) (@pC _ _ _ _ _ (pv 3) pN ⋯) ⋯ ⋯ ⋯ ⋯) (pv 1))))) qau) (@pK _ _ _ _ _ (@pZ _ _ (4) _ _ _ _ (by exact S.nd) ⋯ ⋯ (@pP _ _ _ _ _ _ _ _ qbG (@pP _ _ _ _ _ _ _ _ qbX (@pP _ _ _ _ _ _ _ _ qaJ (@pP _ _ _ _ _ _ _ _ qaJ (@pP _ _ _ _ _ _ _ _ qbG (pv 3) pI) (@pP _ _ _ _ _ _ _ _ qbX pI (pv 2))) pI) pI) pI) ⋯ ⋯) (@pK _ _ _ _ _ (@pZ _ _ (4) _ _ _ _ (by exact S.nd) ⋯ ⋯ (@pP _ _ _ _ _ _ _ _ qbG (@pP _ _ _ _ _ _ _ _ qaJ (@pP _ _ _ _ _ _ _ _ qaJ (@pP _ _ _ _ _ _ _ _ qbX (pv 4) (pv 4)) (@pP _ _ _ _ _ _ _ _ qbX pI (pv 4))) (pv 2)) pI) ⋯ ⋯) (@pK _ _ _ _ _ (@pZ _ _ (4) _ _ _ _ (by exact S.nd) ⋯ ⋯ (@pP _ _ _ _ _ _ _ _ qbG (@pP _ _ _ _ _ _ _ _ qbX (pv 4) (@pP _ _ _ _ _ _ _ _ qaJ (@pP _ _ _ _ _ _ _ _ qbG (pv 4) pI) pI)) pI) ⋯ ⋯) (@pO _ _ _ (@qag _ _ _ _ (@pP _ _ _ _ _ _ _ _ qbG (@pP _ _ _ _ _ _ _ _ qe2 (pv 4) pI) (pv 1))))))))))))),?_⟩
 apply qls (C:=fun (x:Int) (H':Hp)=>Pen H' p (n + 1)/\qaS p H H')
 case main =>
  intro key
  have gl:=qiN hp
  refine ⟨_,rfl,p,_,rfl,gl,_,_,rfl,rfl,_,rfl,?_⟩
  refine ite2 (fun _=>?_) (fun _=>?_)
  ·refine ⟨_,rfl,p,_,rfl,gl,_,rfl,_,_,rfl,rfl,hm,?_⟩
   refine ⟨_,rfl,p,_,rfl,gl,_,rfl,_,_,rfl,rfl,⟨hm,hm2⟩,_,rfl,p,_,rfl,qeD hp,?_⟩
   refine ⟨_,rfl,?_⟩
   exact k _ _ (Int.emod_nonneg _ (by omega)) (Int.emod_lt_of_pos _ hm) ⟨c,ns,a,_,uS,by rw [uE hcp]; exact hc,ha0,by omega⟩ (qaS.upd hp)
  refine ⟨_,rfl,p,_,rfl,qlF hp,?_⟩
  refine ⟨_,rfl,_,_,rfl,rfl,_,rfl,p,_,rfl,qkz hp,?_⟩
  have hp1:(upd H p (.dK (penL c (a + 1) l))) p=some (.dK (penL c (a + 1) l)):=uS
  have hc1:(upd H p (.dK (penL c (a + 1) l))) c=some (.lst (ns.map V.int)):=by rw [uE hcp]; exact hc
  have x1:qaS p H (upd H p (.dK (penL c (a + 1) l))):=qaS.upd hp
  generalize upd H p (.dK (penL c (a + 1) l))=H1 at hp1 hc1 x1
  have gc:=qhz hp1
  have pen1:Pen H1 p (n + 1):=⟨c,ns,a + 1,l,hp1,hc1,by omega,by omega⟩
  have ha1:a≤100000:=by omega
  have haa:0≤11 * a/\11 * a≤1100000:=by omega
  refine ⟨_,rfl,_,_,rfl,rfl,.inl ⟨by decide,by decide⟩,_,rfl,_,_,rfl,rfl,.inl ⟨by omega,by omega⟩,_,_,rfl,rfl,?_⟩
  refine ⟨_,rfl,p,_,rfl,gc,c,_,rfl,.inl (SqL.of hc1),_,_,rfl,rfl,_,rfl,?_⟩
  refine ite2 (fun c0=>?_) (fun c0=>?_)
  ·have hl:0 < ns.length:=by
    have:(0:Int) < (((ns.map V.int).length:Nat):Int):=of_decide_eq_true c0
    rw [List.length_map] at this
    omega
   obtain ⟨z,hz⟩:=qkE (ns:=ns) a hl
   refine ⟨_,rfl,p,_,rfl,gc,_,rfl,_,rfl,p,_,rfl,gc,c,_,rfl,.inl (SqL.of hc1),_,_,rfl,rfl,(by rw [List.length_map]; omega),c,_,_,_,rfl,rfl,SqL.of hc1,hz,?_⟩
   refine ⟨_,rfl,_,rfl,p,_,rfl,gc,c,_,rfl,.inl (SqL.of hc1),_,_,rfl,rfl,_,rfl,?_⟩
   refine ite2 (fun c1=>?_) (fun c1=>iteF ?_)
   ·refine ⟨_,rfl,_,rfl,_,_,rfl,rfl,⟨by decide,by decide,by decide⟩,_,_,rfl,rfl,_,rfl,?_⟩
    refine ite2 (fun c2=>?_) (fun c2=>?_)
    ·refine ⟨_,rfl,_,rfl,_,rfl,_,_,rfl,rfl,⟨hm,hm2⟩,_,rfl,p,_,rfl,qeD hp1,?_⟩
     refine ⟨_,rfl,_,rfl,_,rfl,_,_,rfl,rfl,hm,?_⟩
     exact k _ _ (Int.emod_nonneg _ (by omega)) (Int.emod_lt_of_pos _ hm) ⟨c,ns,a + 1,_,uS,by rw [uE hcp]; exact hc1,by omega,by omega⟩ (x1.trans (qaS.upd hp1))
    ·exact key z H1 ⟨pen1,x1⟩
   ·exact key z H1 ⟨pen1,x1⟩
  ·refine ⟨_,rfl,_,rfl,p,_,rfl,gc,c,_,rfl,.inl (SqL.of hc1),_,_,rfl,rfl,_,rfl,?_⟩
   refine ite2 (fun c1=>?_) (fun c1=>iteF ?_)
   ·exfalso
    have e1:¬ (0:Int) < (((ns.map V.int).length:Nat):Int):=by simpa using c0
    have e2:a < (((ns.map V.int).length:Nat):Int):=of_decide_eq_true c1
    omega
   ·exact key (11 * a * a + 5) H1 ⟨pen1,x1⟩
 case key =>
  rintro x H' ⟨pen1,x1⟩
  have a1:a≤100000:=by omega
  have e0:=Int.emod_nonneg x (show (2147483629:Int)≠0 by decide)
  have e1:=Int.emod_lt_of_pos x (show (0:Int) < 2147483629 by decide)
  refine ⟨_,rfl,_,_,rfl,rfl,(show (0:Int) < 2147483629 by decide),_,rfl,_,_,rfl,rfl,.inl ⟨by decide,by decide⟩,_,_,rfl,rfl,_,_,rfl,rfl,_,_,rfl,rfl,.inr ⟨by decide,by decide⟩,_,_,rfl,rfl,(show (0:Int) < 2147483647 by decide),?_⟩
  have w0:=Int.emod_nonneg ((x % 2147483629 + 104729 * a + 1) * 48271) (show (2147483647:Int)≠0 by decide)
  have w1:=Int.emod_lt_of_pos ((x % 2147483629 + 104729 * a + 1) * 48271) (show (0:Int) < 2147483647 by decide)
  generalize (x % 2147483629 + 104729 * a + 1) * 48271 % 2147483647=y at w0 w1
  refine ⟨_,rfl,_,rfl,_,_,rfl,rfl,.inl ⟨by omega,by omega⟩,_,rfl,_,_,rfl,rfl,.inl ⟨by decide,by decide⟩,_,_,rfl,rfl,_,rfl,_,_,rfl,rfl,_,_,rfl,rfl,(show (0:Int) < 2147483587 by decide),?_⟩
  have u0:=Int.emod_nonneg (y * y + 69621 * y + a) (show (2147483587:Int)≠0 by decide)
  have u1:=Int.emod_lt_of_pos (y * y + 69621 * y + a) (show (0:Int) < 2147483587 by decide)
  generalize (y * y + 69621 * y + a) % 2147483587=z at u0 u1
  refine ⟨_,rfl,_,rfl,_,_,rfl,rfl,(show (0:Int) < 65521 by decide),_,_,rfl,rfl,_,_,rfl,rfl,.inl ⟨by omega,by omega⟩,_,_,rfl,rfl,(show (0:Int) < 2147483579 by decide),?_⟩
  refine ⟨_,rfl,_,_,rfl,rfl,⟨by decide,by decide⟩,_,rfl,_,_,rfl,rfl,hm,?_⟩
  exact k _ _ (Int.emod_nonneg _ (by omega)) (Int.emod_lt_of_pos _ hm) pen1 x1
def lowF (t b:Int):Int × Int:=(t / gI t b,b / gI t b)
def qcR:Sp:=fun vs H Q _=>∃ t b:Int,vs=[.int t,.int b]/\0≤t/\0 < b/\Bt 8000 b/\∀ v H',Same H H'->PrAt H' v (lowF t b)->Q v H'
theorem qhc (C_l_measure:Cal P w K mg base "_law_measure" ["_law_a", "_law_b"] 1 qco)(F:FunAt K mg "_law_lowest" ["_law_top", "_law_bottom"] s_l_lowest):Cal P w K mg base "_law_lowest" ["_law_top", "_law_bottom"] 2 qcR:=by
 have S:=qc0
 refine F.cal qc0 (fun vs H Q E h=>?_) (fun f cdv A outer s H vs Q E hr h=>?_)
 ·obtain ⟨t,b,rfl,_⟩:=h; rfl
 obtain ⟨t,b,rfl,ht,hb,bb,k⟩:=h
 refine ⟨_,(@pK _ _ _ _ _ (@pZ _ _ (2) _ _ _ _ (by exact S.nd) ⋯ ⋯ (@cc _ _ _ _ _ _ _ _ _ _ (by exact C_l_measure) (by exact (hr.mono (by decide))) (@pC _ _ _ _ _ (pv 0) (@pC _ _ _ _ _ (pv 1) pN ⋯) ⋯) ⋯ ⋯ ⋯ ⋯) ⋯ ⋯) (@pO _ _ _ (@qag _ _ _ _ (@qar _ _ _ _ _ (@pC _ _ _ _ _ (@pP _ _ _ _ _ _ _ _ qbA (pv 0) (pv 2)) (@pC _ _ _ _ _ (@pP _ _ _ _ _ _ _ _ qbA (pv 1) (pv 2)) pN ⋯) ⋯))))),?_⟩
 have g0:=qbo (a:=t) (b:=b) (by omega)
 have gb:Bt 8000 (gI t b):=bb.gr (by omega)
 refine ⟨_,rfl,_,rfl,_,_,rfl,ht,by omega,?_⟩
 refine ⟨_,rfl,_,rfl,_,_,rfl,rfl,⟨g0,gb⟩,_,rfl,_,rfl,_,_,rfl,rfl,⟨g0,gb⟩,lz 2 rfl,fun p hp=>?_⟩
 exact k _ _ (sN hp _) ⟨p,rfl,uS⟩
end
end My
namespace My
open PySem L2 MA Srt
abbrev prq (q:Rat):Int × Int:=(q.num,(q.den:Int))
theorem low_q {t b:Int}(hb:0 < b):lowF t b=prq (Rat.divInt t b):=by
 have:=qbw (t:=t) hb
 unfold lowF prq
 rw [this.1,this.2]
abbrev Spd:=List (List Int × Rat)
def RwAt (H:Hp)(v:V)(r:List Int × Rat):Prop:=∃ a b v2,v = .ref a/\H a=some (.tup [.ref b,v2])/\H b=some (.tup (iv r.1))/\ShAt H v2 r.2
def SpAt (H:Hp)(l:Addr)(rs:Spd):Prop:=∃ xs,H l=some (.lst xs)/\Paired (RwAt H) xs rs
theorem RwAt.imp {H H':Hp}{v:V}{r:List Int × Rat}(k:∀ b xs,H b=some (.tup xs)->H' b=some (.tup xs))(h:RwAt H v r):RwAt H' v r:=by
 obtain ⟨a,b,v2,e,h1,h2,c,e2,h3⟩:=h
 exact ⟨a,b,v2,e,k _ _ h1,k _ _ h2,c,e2,k _ _ h3⟩
theorem SpAt.same {H H':Hp}{l:Addr}{rs:Spd}(s:Same H H')(h:SpAt H l rs):SpAt H' l rs:=let ⟨xs,e,r⟩:=h; ⟨xs,s _ _ e,Paired.mapP r fun _ _ z=>z.imp fun b xs e=>s b _ e⟩
theorem SpAt.sameX {H H':Hp}{p l:Addr}{rs:Spd}{kvs:List (Key × V)}(hp:H p=some (.dK kvs))(s:qaS p H H')(h:SpAt H l rs):SpAt H' l rs:=by
 obtain ⟨xs,e,r⟩:=h
 have k:∀ {b:Addr} {o:HO},H b=some o->(∀ kvs,o ≠ .dK kvs)->H' b=some o:=fun {b o} e z=>s.1 b o e (fun q=>by subst q; rw [hp] at e; cases e; exact z _ rfl)
 exact ⟨xs,k e (fun _ z=>by cases z),Paired.mapP r fun _ _ z=>z.imp fun b xs e=>k e (fun _ z=>by cases z)⟩
def dRw (r:List Int × Rat):PyData := .tuple [.tuple (r.1.map PyData.int),.tuple [.int r.2.num,.int (r.2.den:Int)]]
def dSp (rs:Spd):PyData := .list (rs.map dRw)
theorem qgT {H:Hp}{v:V}{r:List Int × Rat}(h:RwAt H v r):qaP H v (dRw r):=by
 obtain ⟨a,b,v2,rfl,h1,h2,c,rfl,h3⟩:=h
 exact .tup h1 (.cons (.tup h2 (qeE H r.1)) (.cons (.tup h3 (.cons (.int _) (.cons (.int _) .nil))) .nil))
theorem qjC {H:Hp}{l:Addr}{rs:Spd}(h:SpAt H l rs):qaP H (.ref l) (dSp rs):=by
 obtain ⟨xs,e,r⟩:=h
 refine .lst e ?_
 clear e
 induction r with
 | nil=>exact .nil
 | cons q t ih=>exact .cons (qgT q) ih
def sprF (m:Mp)(W:Int):Spd:=(rise (qah m)).map fun k=>(k,Rat.divInt (getM m k) W)
theorem qlv (k:List Int):iv k=(k.map (Sum.inl:Int->Key)).map kV:=by rw [List.map_map]; rfl
theorem tupL {H:Hp}{p:Addr}{ys:List V}{o:HO}(h:H p=some (.lst ys)):∀ b xs,H b=some (.tup xs)->upd H p o b=some (.tup xs):=fun b xs e=>by rw [uE (qiD e h (by intro z; cases z))]; exact e
theorem tT_ {σ:St}{H:Hp}{Q:Bool->Hp->Prop}(h:Q true H):tTT σ H Q:=h
theorem none_of {H H':Hp}{p:Addr}(s:Same H H')(h:H' p=none):H p=none:=by
 cases e:H p with
 | none=>rfl
 | some o=>rw [s _ _ e] at h; cases h
theorem qc7 {α β:Type}{F:α->β->Prop}{xs:List α}{ys:List β}{x:α}{y:β}(h:Paired F xs ys)(r:F x y):Paired F (xs ++ [x]) (ys ++ [y]):=Paired.snoc h r
theorem take_snoc {α:Type}{l:List α}{i:Nat}{x:α}(h:l[i]?=some x):l.take (i + 1)=l.take i ++ [x]:=by rw [List.take_add_one,h]; rfl
structure LdOk (ns:List Int)(n:Nat)(b:Int):Prop where
 len:ns.length=n
 nn:∀ x∈ns,0≤x
 dn:ns.Pairwise (· ≥ ·)
 sum:ns.sum=b
theorem qif {ns:List Int}{j:Nat}(h:j < ns.length):(ns.set j (ns.getD j 0 + 1)).sum=ns.sum + 1:=by
 induction ns generalizing j with
 | nil=>simp at h
 | cons a ns ih =>
  cases j with
  | zero=>simp; omega
  | succ j =>
   have:=ih (j:=j) (by simpa using h)
   simp only [List.set_cons_succ,List.sum_cons,List.getD_cons_succ]
   rw [this]; omega
theorem qkf {ns:List Int}{j:Nat}(h:∀ x∈ns,0≤x):∀ x∈ns.set j (ns.getD j 0 + 1),0≤x:=by
 intro x hx
 rcases List.mem_or_eq_of_mem_set hx with z | z
 ·exact h x z
 ·subst z
  rw [List.getD_eq_getElem?_getD]
  cases e:ns[j]? with
  | none=>simp
  | some y=>have:=h y (List.mem_of_getElem? e); simp; omega
theorem qlu (x:Int)(k:Nat):(List.replicate k [V.int x]).flatten=iv (List.replicate k x):=rep1 x k
section
variable {P:Program}{w:World}{K:PySem.W.Frag}{mg:Str->Option Value}{base:Heap}
def qgM:Sp:=fun vs H Q _=>∃ (p:Addr) (n:Nat) (b:Nat) (m:Nat),vs=[.ref p,.int (n:Int),.int (b:Int)]/\1≤n/\n≤6/\b≤40/\Pen H p m/\m < 60000/\∀ (a:Addr) (ns:List Int) (H':Hp),H' a=some (.tup (iv ns))->LdOk ns n b->Pen H' p (m + 42)->qaS p H H'->Q (.ref a) H'
theorem qiz (T:Txt2 mg)(C_l_draw:Cal P w K mg base "_law_draw" ["_law_pen_here", "_law_many"] 1 qcX)(F:FunAt K mg "_law_load" ["_law_pen_here", "_law_n", "_law_balls"] s_l_load):Cal P w K mg base "_law_load" ["_law_pen_here", "_law_n", "_law_balls"] 2 qgM:=by
 have S:=qeh
 refine F.cal qeh (fun vs H Q E h=>?_) (fun f cdv A outer s H vs Q E hr h=>?_)
 ·obtain ⟨p,n,b,m,rfl,_⟩:=h; rfl
 obtain ⟨p,n,b,m,rfl,n1,n6,b40,hp,hm,k⟩:=h
 refine ⟨_,(pK (pZ (i:=3) S.nd rfl (Or.inl rfl) (pP qg6 (qaN (pC pI pN)) (pv 1)))
   (pK (pZ (i:=4) S.nd rfl (Or.inl rfl) (cc C_l_draw (hr.mono (by decide)) (pC (pv 0) (pC pI pN))))
   (pK (pZ (i:=5) S.nd rfl (Or.inl rfl) (cc C_l_draw (hr.mono (by decide)) (pC (pv 0) (pC (pv 1) pN))))
   (pK (qbK PassesOwn.never rfl (qcd rfl T.z_range (pC (pv 2) pN)) (pG (i:=6) S.nd rfl (Or.inl rfl)) (pK (pZ (i:=7) S.nd rfl (Or.inl rfl) (qaA qa0 (qaN (pC (pP qbG (pv 6) (pv 1)) (pC (pv 5) (pC (cc C_l_draw (hr.mono (by decide)) (pC (pv 0) (pC (pv 1) pN))) pN)))) (pv 4) (fun _ _=>rfl)))
   (pO (qcG (pP qaJ (qaA qa0 (pv 3) (pv 7) (fun _ _=>rfl)) pI) (qg3 (pv 3) (pv 7) set_list)))))
   (pO (qag (qbk qcj rfl T.z_tuple qbp (pC (qf8 rfl T.z_sorted (pC (pv 3) pN)) pN)))))))),?_⟩
 refine ⟨lz 1 rfl,fun q1 hq1=>⟨_,rfl,q1,_,_,rfl,rfl,uS,by omega,by omega,lzz (by simp; omega),fun q2 hq2=>?_⟩⟩
 rw [qlu,Int.toNat_natCast]
 have s1:=sN hq1 (.lst [.int 0])
 have s2:=sN hq2 (.lst (iv (List.replicate n 0)))
 have s12:=s1.trans s2
 have hq2H:H q2=none:=none_of s1 hq2
 refine ⟨_,rfl,p,_,m,rfl,hp.same s12,by omega,by decide,by decide,fun wy H1 w0 w3 p1 x1=>?_⟩
 refine ⟨_,rfl,_,rfl,p,_,_,rfl,p1,by omega,by omega,by omega,fun at' H2 a0 a1 p2 x2=>?_⟩
 have x12:=x1.trans x2
 have hf2:H2 q2=some (.lst (iv (List.replicate n 0))):=(hp.same s12).keep x12 uS
 have xH:qaS p H H2:=(Same.x s12).trans x12
 refine ⟨_,rfl,(b:Int),rfl,by omega,by omega,qci (n:=(b:Int).toNat) (fun i σ H'=>Pen H' p (m + 2 + i)/\qaS p H H'/\∃ (ns:List Int) (o1 o2:Option V),H' q2=some (.lst (iv ns))/\ns.length=n/\(∀ x∈ns,0≤x)/\ns.sum=i/\σ=[some (.ref p),some (.int (n:Int)),some (.int (b:Int)),some (.ref q2),some (.int wy),some (.int at'),o1,o2]) ?_ ?_ ?_⟩
 ·exact ⟨p2,xH,_,_,_,hf2,by simp,fun x hx=>by rw [List.eq_of_mem_replicate hx]; exact Int.le_refl _,by simp,rfl⟩
 ·rintro i σ H3 hi ⟨p3,x3,ns,o1,o2,hf3,nl,nn,nsum,rfl⟩
  refine ⟨_,rfl,_,rfl,_,_,rfl,rfl,(show (0:Int) < n by omega),_,rfl,_,rfl,_,rfl,p,_,_,rfl,p3,by omega,by omega,by omega,fun d H4 d0 d1 p4 x4=>⟨lz 3 rfl,fun q hq=>?_⟩⟩
  have s4:=sN hq (.lst [.int ((0 + (i:Int)) % (n:Int)),.int at',.int d])
  have hf4:=p3.keep x4 hf3
  obtain ⟨bx,hbx,b0,b1⟩:∃ bx:Int,atI [V.int ((0 + (i:Int)) % (n:Int)),.int at',.int d] wy=some (.int bx)/\0≤bx/\bx < n:=by
   have:wy=0\/wy=1\/wy=2:=by omega
   rcases this with rfl | rfl | rfl
   ·exact ⟨_,rfl,Int.emod_nonneg _ (by omega),Int.emod_lt_of_pos _ (by omega)⟩
   ·exact ⟨_,rfl,a0,a1⟩
   ·exact ⟨_,rfl,d0,d1⟩
  refine ⟨_,rfl,q,_,_,_,rfl,rfl,SqL.of uS,hbx,?_⟩
  obtain ⟨j,rfl⟩:∃ j:Nat,bx=(j:Int):=⟨bx.toNat,by omega⟩
  have hj:j < ns.length:=by omega
  have hf5:=s4 _ _ hf4
  refine ⟨_,rfl,_,rfl,q2,_,_,_,rfl,rfl,SqL.of hf5,qlx hj,_,_,rfl,rfl,_,rfl,_,rfl,q2,_,_,j,rfl,rfl,hf5,?_,?_⟩
  ·unfold ixN
   rw [List.length_map,if_pos (by omega),if_pos (by omega)]; simp
  have hns4:=p4.same s4
  obtain ⟨u1,u2⟩:=qfG hq2H hp (x3.trans (x4.trans (Same.x s4))) hns4 (.lst ((iv ns).set j (.int (ns.getD j 0 + 1))))
  exact ⟨u1.mono (by omega),u2,ns.set j (ns.getD j 0 + 1),_,_,by rw [uS,qlt],by simp [nl],qkf nn,by rw [qif hj,nsum]; omega,rfl⟩
 ·rintro σ H3 ⟨p3,x3,ns,o1,o2,hf3,nl,nn,nsum,rfl⟩
  refine ⟨_,rfl,q2,ns,rfl,hf3,by omega,fun q ms hq pm od=>?_⟩
  have s4:=sN hq (.lst (iv ms))
  refine ⟨q,iv ms,rfl,.inl ⟨SqL.of uS,fun t ht=>?_⟩⟩
  have s5:=sN ht (.tup (iv ms))
  exact k t ms _ uS ⟨by rw [pm.length_eq,nl],fun x hx=>nn x (pm.mem_iff.mp hx),od,by rw [qfu pm,nsum]; omega⟩ ((p3.same (s4.trans s5)).mono (by omega)) (x3.trans (Same.x (s4.trans s5)))
end
structure Cnt (mm:Mp)(n:Nat)(b:Int)(hi:Int):Prop where
 nd:(qah mm).Nodup
 ld:∀ k∈qah mm,LdOk k n b
 pos:∀ k∈qah mm,0 < getM mm k
 sum:(qav mm).sum≤hi
theorem Cnt.put {mm:Mp}{n:Nat}{b hi:Int}(h:Cnt mm n b hi){k:List Int}(hk:LdOk k n b){v:Int}(hv:0 < v):Cnt (putM mm k (getM mm k + v)) n b (hi + v):=by
 have g0:0≤getM mm k:=by
  by_cases z:k∈qah mm
  ·exact Int.le_of_lt (h.pos k z)
  ·rw [qdg z]; exact Int.le_refl _
 refine ⟨qhh h.nd,fun j hj=>?_,fun j hj=>?_,?_⟩
 ·rcases qbL.mp hj with z | z
  ·exact h.ld j z
  ·rw [z]; exact hk
 ·rw [qiO]
  by_cases e:j=k
  ·rw [if_pos e]; omega
  ·rw [if_neg e]
   rcases qbL.mp hj with z | z
   ·exact h.pos j z
   ·exact absurd z e
 ·rw [qh8 h.nd]; have:=h.sum; omega
theorem qk8 {mm:Mp}{k:List Int}{v:Int}:putM mm k v≠[]:=by
 intro z
 have:=qbL (m:=mm) (k:=k) (v:=v) (j:=k)
 rw [z] at this
 have:=this.mpr (.inr rfl)
 simp [qah] at this
theorem qjO {mm:Mp}{k:List Int}{v:Int}:(putM mm k v).length≤mm.length + 1:=by
 unfold putM; split <;> simp
theorem qfP {H:Hp}{a:Addr}{ns:List Int}(h:H a=some (.tup (iv ns))):H a=some (.tup ((ns.map (Sum.inl:Int->Key)).map kV)):=by rw [<- qlv]; exact h
theorem gN_ {i:Nat}{v:V}{σ:St}{H:Hp}{Q:St->Hp->Prop}(h:Q (σ.set i (some v)) H):qez i v σ H Q:=h
section
variable {P:Program}{w:World}{K:PySem.W.Frag}{mg:Str->Option Value}{base:Heap}
def qed:Sp:=fun vs H Q _=>∃ (p:Addr) (n:Nat) (b:Nat) (m:Nat),vs=[.ref p,.int (n:Int),.int (b:Int)]/\1≤n/\n≤6/\b≤40/\Pen H p m/\m < 50000/\∀ (d:Addr) (mm:Mp) (H':Hp),H' d=some (dI mm)->Cnt mm n b 120->mm≠[]->mm.length≤4->Pen H' p (m + 200)->qaS p H H'->Q (.ref d) H'
theorem qge (T:Txt2 mg)(C_l_draw:Cal P w K mg base "_law_draw" ["_law_pen_here", "_law_many"] 1 qcX)(C_l_load:Cal P w K mg base "_law_load" ["_law_pen_here", "_law_n", "_law_balls"] 2 qgM)(F:FunAt K mg "_law_counted" ["_law_pen_here", "_law_n", "_law_balls"] s_l_counted):Cal P w K mg base "_law_counted" ["_law_pen_here", "_law_n", "_law_balls"] 3 qed:=by
 have S:=qcC
 refine F.cal qcC (fun vs H Q E h=>?_) (fun f cdv A outer s H vs Q E hr h=>?_)
 ·obtain ⟨p,n,b,m,rfl,_⟩:=h; rfl
 obtain ⟨p,n,b,m,rfl,n1,n6,b40,hp,hm,k⟩:=h
 have hu1:=qkq hr
 refine ⟨_,(@pK _ _ _ _ _ (@pZ _ _ (3) _ _ _ _ (by exact S.nd) ⋯ ⋯ qiv ⋯ ⋯) (@pK _ _ _ _ _ (@qbK _ _ _ _ _ _ _ _ (by exact PassesOwn.never) ⋯ (@qcd _ _ _ _ _ _ ⋯ (by exact T.z_range) (@pC _ _ _ _ _ (@pP _ _ _ _ _ _ _ _ qaJ pI (@cc _ _ _ _ _ _ _ _ _ _ (by exact C_l_draw) (by exact (hr.mono (by decide))) (@pC _ _ _ _ _ (pv 0) (@pC _ _ _ _ _ pI pN ⋯) ⋯) ⋯ ⋯ ⋯ ⋯)) pN ⋯) ⋯) (@pG _ _ (4) _ (by exact S.nd) ⋯ ⋯ ⋯) (@pK _ _ _ _ _ (@pZ _ _ (5) _ _ _ _ (by exact S.nd) ⋯ ⋯ (@cc _ _ _ _ _ _ _ _ _ _ (by exact C_l_load) (by exact (hr.mono (by decide))) (@pC _ _ _ _ _ (pv 0) (@pC _ _ _ _ _ (pv 1) (@pC _ _ _ _ _ (pv 2) pN ⋯) ⋯) ⋯) ⋯ ⋯ ⋯ ⋯) ⋯ ⋯) (@pO _ _ _ (@qdS _ _ _ _ _ _ _ _ _ (by exact hu1) (pv 3) (pv 5) (@pP _ _ _ _ _ _ _ _ qaJ (@pP _ _ _ _ _ _ _ _ qaJ (@qix _ _ _ _ _ _ _ _ _ (by exact hu1) (pv 3) (pv 5) pI (by exact ⟨rfl,rfl,rfl,rfl⟩)) pI) (@cc _ _ _ _ _ _ _ _ _ _ (by exact C_l_draw) (by exact (hr.mono (by decide))) (@pC _ _ _ _ _ (pv 0) (@pC _ _ _ _ _ pI pN ⋯) ⋯) ⋯ ⋯ ⋯ ⋯)) ⋯))) ⋯) (@pO _ _ _ (@qag _ _ _ _ (pv 3))))),?_⟩
 intro d hd
 have s1:=sN hd (.dT [])
 refine ⟨_,rfl,p,_,m,rfl,hp.same s1,by omega,by decide,by decide,fun r H1 r0 r1 p1 x1=>⟨_,_,rfl,rfl,?_⟩⟩
 have hd1:H1 d=some (dI []):=(hp.same s1).keep x1 uS
 have xA:qaS p H H1:=(Same.x s1).trans x1
 refine ⟨1 + r,rfl,by omega,by omega,qci (n:=(1 + r).toNat) (fun i σ H'=>Pen H' p (m + 1 + 43 * i)/\qaS p H H'/\∃ (mm:Mp) (o1 o2:Option V),H' d=some (dI mm)/\Cnt mm n b (30 * i)/\mm.length≤i/\(i≠0->mm≠[])/\σ=[some (.ref p),some (.int (n:Int)),some (.int (b:Int)),some (.ref d),o1,o2]) ?_ ?_ ?_⟩
 ·exact ⟨p1,xA,[],_,_,hd1,⟨List.nodup_nil,(fun k hk=>by simp [qah] at hk),(fun k hk=>by simp [qah] at hk),by simp [qav]⟩,Nat.zero_le _,fun z=>absurd rfl z,rfl⟩
 ·rintro i σ H2 hi ⟨p2,x2,mm,o1,o2,hd2,cn,ml,ne,rfl⟩
  refine ⟨_,rfl,_,rfl,_,rfl,p,n,b,_,rfl,n1,n6,b40,p2,by omega,fun a ns H3 ha lo p3 x3=>?_⟩
  have hd3:=p2.keep x3 hd2
  refine ⟨_,rfl,d,rfl,.inr ⟨_,.inl hd3⟩,_,rfl,_,DGet.t hd3 (qfP ha),?_⟩
  rw [qgy]
  refine ⟨_,_,rfl,rfl,_,rfl,p,_,_,rfl,p3,by omega,by decide,by decide,fun r4 H4 r40 r41 p4 x4=>?_⟩
  have hd4:=p3.keep x4 hd3
  have ha4:=p3.keep x4 ha
  refine ⟨_,_,rfl,rfl,_,rfl,_,rfl,d,_,rfl,DPut.t hd4 (qfP ha4) ?_,?_⟩
  ·rw [List.length_map,sizeLine_eq]; omega
  rw [qgW]
  obtain ⟨u1,u2⟩:=qfG hd hp (x2.trans (x3.trans x4)) p4 (dI (putM mm ns (getM mm ns + 1 + r4)))
  have e1:getM mm ns + 1 + r4=getM mm ns + (1 + r4):=by omega
  have c2:=cn.put lo (v:=1 + r4) (by omega)
  rw [<- e1] at c2
  exact ⟨u1.mono (by omega),u2,_,_,_,uS,⟨c2.nd,c2.ld,c2.pos,by have:=c2.sum; omega⟩,by have:=qjO (mm:=mm) (k:=ns) (v:=getM mm ns + 1 + r4); omega,fun _=>qk8,rfl⟩
 ·rintro σ H2 ⟨p2,x2,mm,o1,o2,hd2,cn,ml,ne,rfl⟩
  exact ⟨_,rfl,k d mm H2 hd2 ⟨cn.nd,cn.ld,cn.pos,by have:=cn.sum; omega⟩ (ne (by omega)) (by omega) (p2.mono (by omega)) x2⟩
def qec:Sp:=fun vs H Q _=>∃ (d:Addr) (m:Mp),vs=[.ref d]/\H d=some (dI m)/\(qah m).Nodup/\(∀ k∈qah m,k≠[])/\m.length < 65536/\(∀ k∈qah m,0≤getM m k)/\0 < (qav m).sum/\Bt 8000 (qav m).sum/\∀ (l:Addr) (H':Hp),Same H H'->H l=none->SpAt H' l (sprF m (qav m).sum)->Q (.ref l) H'
theorem qgb (T:Txt2 mg)(C_l_lowest:Cal P w K mg base "_law_lowest" ["_law_top", "_law_bottom"] 2 qcR)(F:FunAt K mg "_law_spread" ["_law_found"] s_l_spread):Cal P w K mg base "_law_spread" ["_law_found"] 3 qec:=by
 have S:=qcY
 refine F.cal qcY (fun vs H Q E h=>?_) (fun f cdv A outer s H vs Q E hr h=>?_)
 ·obtain ⟨d,m,rfl,_⟩:=h; rfl
 obtain ⟨d,m,rfl,hd,nd,ne,few,nn,s0,sb,k⟩:=h
 have hu1:=qkq hr
 refine ⟨_,(@pK _ _ _ _ _ (@pZ _ _ (1) _ _ _ _ (by exact S.nd) ⋯ ⋯ (@qab _ _ _ _ _ _ _ _ _ (qhV ⋯) ⋯ (by exact T.z_sum) (by exact qeJ) (@pC _ _ _ _ _ (@qg5 _ _ _ _ _ (pv 0) ⋯ ⋯) pN ⋯) ⋯ ⋯ ⋯ ⋯) ⋯ ⋯) (@pO _ _ _ (@qag _ _ _ _ (@qbr _ _ _ _ _ _ _ _ _ _ _ _ _ ⋯ (by exact (fun _ _ h=>h)) (by decide +kernel) ⋯ (by decide +kernel) (by exact qbZ rfl) (by exact Sees.frees ["_law_load_here"] [("_law_found",0),("_law_whole",1)] (qdi ⟨rfl,rfl⟩ (qdi ⟨rfl,rfl⟩ qb0))) (@qbe _ _ _ _ (@qab _ _ _ _ _ _ _ _ _ (qeG ⋯) ⋯ (by exact T.z_sorted) (by exact qeK) (@pC _ _ _ _ _ (pv 0) pN ⋯) ⋯ ⋯ ⋯ ⋯)) (fun _ _ _ _ _ => @pG _ _ (0) _ (by exact (show (["_law_load_here", "_law_found", "_law_whole"]:List Str).Nodup by decide +kernel)) ⋯ ⋯ ⋯) (fun _ _ _ _ _=>qba) (fun _ _ _ _ _=>(@qar _ _ _ _ _ (@pC _ _ _ _ _ (pv 0) (@pC _ _ _ _ _ (@cc _ _ _ _ _ _ _ _ _ _ (by exact C_l_lowest) (by exact (hr.mono (by decide))) (@pC _ _ _ _ _ (@qbz _ _ _ _ _ _ (by exact hu1) (pv 1) (pv 0) (by exact (fun _ _=>rfl))) (@pC _ _ _ _ _ (pv 2) pN ⋯) ⋯) ⋯ ⋯ ⋯ ⋯) pN ⋯) ⋯))) ⋯)))),?_⟩
 refine ⟨_,rfl,d,_,rfl,.inl hd,fun v hv=>?_⟩
 have s1:=sN hv (vaV v d)
 refine ⟨v,d,_,qav m,rfl,uS,.inl (s1 _ _ hd),by unfold qav; rw [List.map_map]; show _=List.map V.int _; rw [List.map_map]; rfl,?_⟩
 refine ⟨_,rfl,d,_,qah m,rfl,.inl (s1 _ _ hd),by unfold qah; rw [List.map_map,List.map_map]; rfl,ne,by simpa [qah] using few,fun q bs ms hq pm ri tb=>?_⟩
 have e:=qjH pm ri
 subst e
 have s2:=sN hq (.lst (bs.map V.ref))
 have sA:=s1.trans s2
 have bl:=Paired.length tb
 have kl:(rise (qah m)).length=m.length:=by rw [(qaI _).length_eq]; simp [qah]
 refine ⟨q,rfl,⟨_,SqL.of uS⟩,qb2 (qaT (xs:=bs.map V.ref)) (fun p i ys σ' H'=>Same (upd (upd H v (vaV v d)) q (.lst (bs.map V.ref))) H'/\(∃ o1,σ'=[o1,some (.ref d),some (.int (qav m).sum)])/\ys.length=i/\Paired (RwAt H') ys ((sprF m (qav m).sum).take i)) (by simp; omega) ?_ ?_ ?_ ?_⟩
 ·intro p hp
  exact ⟨sN hp _,⟨_,rfl⟩,rfl,.nil⟩
 ·rintro p i ys σ' H' hp ⟨s',_⟩
  exact s' _ _ uS
 ·rintro p i ys σ' H' x H'' hp hi hl ⟨s',⟨o1,rfl⟩,yl,pr'⟩ hp' ⟨rfl,hx⟩ Q1 Q2 h1 h2
  rw [List.getElem?_map,Option.map_eq_some_iff] at hx
  obtain ⟨b,hb,rfl⟩:=hx
  obtain ⟨kk,hk1,hb1⟩:=qan tb hb
  have km:kk∈qah m:=(qaI _).mem_iff.mp (List.mem_of_getElem? hk1)
  have hb':=(s2.trans s') _ _ hb1
  refine gN_ (tT_ (iteT ?_))
  refine ⟨_,rfl,_,rfl,_,rfl,d,_,rfl,by have:=DGet.t ((sA.trans s') _ _ hd) (qfP hb'); rw [qgx km] at this; exact this,_,rfl,_,_,rfl,nn kk km,s0,sb,fun v2 H5 s5 pa=>?_⟩
  rw [low_q s0] at pa
  refine ⟨lz 2 rfl,fun t ht=>h1 _ _ _ ?_ ?_⟩
  ·exact sN ht _ _ _ (s5 _ _ hp')
  ·have s6:=sN ht (.tup [.ref b,v2])
   have hp6:=s6 _ _ (s5 _ _ hp')
   refine ⟨qaL hp (s'.trans (s5.trans s6)) _,⟨_,rfl⟩,by simp [yl],?_⟩
   have hs:(sprF m (qav m).sum)[i]?=some (kk,Rat.divInt (getM m kk) (qav m).sum):=by unfold sprF; rw [List.getElem?_map,hk1]; rfl
   rw [take_snoc hs]
   refine qc7 (Paired.mapP pr' fun _ _ z=>z.imp fun b xs e=>tupL hp6 _ _ ((s5.trans s6) _ _ e)) ⟨t,b,v2,rfl,tupL hp6 _ _ uS,tupL hp6 _ _ ((s5.trans s6) _ _ hb'),?_⟩
   obtain ⟨c,e2,h3⟩:=pa
   exact ⟨c,e2,tupL hp6 _ _ (s6 _ _ h3)⟩
 ·rintro p ys σ' H' hp ⟨s',_,yl,pr'⟩ hp' hl
  refine k p H' (sA.trans s') (none_of sA hp) ⟨ys,hp',?_⟩
  rw [List.length_map,bl] at pr'
  have:(sprF m (qav m).sum).length=(rise (qah m)).length:=by simp [sprF]
  rw [<- this,List.take_length] at pr'
  exact pr'
end
end My
namespace L2
open PySem PySem.Spec PyProof.Rows MA
def SmB (p:Addr)(H H':Hp):Prop:=∀ b u,b≠p->H b=some u->H' b=some u
theorem SmB.trans {p:Addr}{H H1 H2:Hp}(a:SmB p H H1)(b:SmB p H1 H2):SmB p H H2:=fun c u n e=>b c u n (a c u n e)
theorem SmB.of {p:Addr}{H H':Hp}(s:Same H H'):SmB p H H':=fun b u _ e=>s b u e
theorem SmB.upd {p:Addr}{H H':Hp}(s:SmB p H H')(o:HO):SmB p H (L2.upd H' p o):=fun b u n e=>by rw [uE n]; exact s b u n e
theorem qbJ {H:Hp}{l b:Addr}{zs us:List V}{o:HO}(hl:H l=some (.lst zs))(h:H b=some (.tup us)):upd H l o b=some (.tup us):=by
 rw [uE (qiD h hl (by intro z; cases z))]; exact h
theorem qg8 {X:Cx}(K:PySem.W.Frag)(h:X.K=K):OpR X (binaryOp .Add) (qjc K):=by subst h; exact qfH
end L2
namespace My
open PySem L2 MA Srt
def allL:Nat->Nat->Nat->List (List Int)
 | 0,b,_=>if b=0 then [[]] else []
 | n + 1,b,mx=>(List.range (min b mx + 1)).flatMap fun x=>(allL n (b - x) x).map fun l=>(x:Int) :: l
def cntL:Nat->Nat->Nat->Nat
 | 0,b,_=>if b=0 then 1 else 0
 | n + 1,b,mx=>((List.range (min b mx + 1)).map fun x=>cntL n (b - x) x).sum
theorem qh2:∀ n b mx,(allL n b mx).length=cntL n b mx
 | 0,b,_=>by unfold allL cntL; split <;> rfl
 | n + 1,b,mx=>by
  unfold allL cntL
  rw [List.length_flatMap]
  congr 1
  exact List.map_congr_left fun x _=>by rw [List.length_map,qh2 n]
theorem qjz {l:List Int}(h:∀ x∈l,0≤x):0≤l.sum:=by
 induction l with
 | nil=>simp
 | cons a l ih=>rw [List.sum_cons]; have:=ih fun x hx=>h x (by simp [hx]); have:=h a (by simp); omega
theorem qgh {l:List Int}(h:∀ x∈l,0≤x):∀ x∈l,x≤l.sum:=by
 induction l with
 | nil=>simp
 | cons a l ih =>
  intro x hx
  have:=ih (fun x hx=>h x (by simp [hx]))
  have s0:=qjz (l:=l) fun x hx=>h x (by simp [hx])
  have a0:=h a (by simp)
  rw [List.sum_cons]
  rcases List.mem_cons.mp hx with rfl | hx
  ·omega
  ·have:=this x hx; omega
theorem qh1:∀ (n b mx:Nat) (l:List Int),l∈allL n b mx->LdOk l n b/\∀ x∈l,x≤mx
 | 0,b,mx,l,h=>by
  unfold allL at h
  split at h
  ·rename_i z
   rw [List.mem_singleton] at h
   subst h; subst z
   exact ⟨⟨rfl,fun x hx=>absurd hx (by simp),.nil,rfl⟩,fun x hx=>absurd hx (by simp)⟩
  ·cases h
 | n + 1,b,mx,l,h=>by
  unfold allL at h
  obtain ⟨x,hx,hl⟩:=List.mem_flatMap.mp h
  obtain ⟨l,hl2,rfl⟩:=List.mem_map.mp hl
  have hx:=List.mem_range.mp hx
  obtain ⟨ok,le⟩:=qh1 n _ _ l hl2
  refine ⟨⟨by simp [ok.len],fun y hy=>?_,List.pairwise_cons.mpr ⟨fun y hy=>le y hy,ok.dn⟩,by rw [List.sum_cons,ok.sum]; omega⟩,fun y hy=>?_⟩
  ·rcases List.mem_cons.mp hy with rfl | hy
   ·omega
   ·exact ok.nn y hy
  ·rcases List.mem_cons.mp hy with rfl | hy
   ·omega
   ·have:=le y hy; omega
theorem qeR:∀ (n b mx:Nat),(allL n b mx).Nodup
 | 0,b,mx=>by unfold allL; split <;> simp
 | n + 1,b,mx=>by
  unfold allL
  refine List.pairwise_flatMap.mpr ⟨fun x _=>?_,?_⟩
  ·refine List.pairwise_map.mpr ((qeR n (b - x) x).imp fun h z=>h (List.cons.inj z).2)
  ·refine (List.nodup_range (n:=min b mx + 1)).imp fun h u hu v hv e=>?_
   obtain ⟨u',_,rfl⟩:=List.mem_map.mp hu
   obtain ⟨v',_,rfl⟩:=List.mem_map.mp hv
   have:=(List.cons.inj e).1
   exact h (by omega)
theorem qkG (b mx:Nat):allL 1 b mx=if b≤mx then [[(b:Int)]] else []:=by
 unfold allL
 by_cases h:b≤mx
 ·rw [if_pos h,Nat.min_eq_left h,List.range_succ,List.flatMap_append]
  have e:((List.range b).flatMap fun x=>(allL 0 (b - x) x).map fun l=>(x:Int) :: l)=[]:=by
   rw [List.flatMap_eq_nil_iff]
   intro x hx
   have:=List.mem_range.mp hx
   unfold allL
   rw [if_neg (by omega)]; rfl
  rw [e]; simp [allL]
 ·rw [if_neg h,List.flatMap_eq_nil_iff]
  intro x hx
  have:=List.mem_range.mp hx
  unfold allL
  rw [if_neg (by omega)]; rfl
def allI (n b i:Nat):List (List Int):=(List.range i).flatMap fun x=>(allL n (b - x) x).map fun l=>(x:Int) :: l
theorem qdn (n b i:Nat):allI n b (i + 1)=allI n b i ++ (allL n (b - i) i).map fun l=>(i:Int) :: l:=by
 unfold allI; rw [List.range_succ,List.flatMap_append]; simp
theorem qkH {n b i j:Nat}(h:i≤j):(allI n b i).length≤(allI n b j).length:=by
 induction j with
 | zero=>rw [show i=0 by omega]; exact Nat.le_refl _
 | succ j ih =>
  by_cases e:i=j + 1
  ·subst e; exact Nat.le_refl _
  ·have:=ih (by omega)
   rw [qdn,List.length_append]; omega
theorem qf9 {α β:Type}{F:α->β->Prop}{a c:List α}{b d:List β}(h:Paired F a b)(g:Paired F c d):Paired F (a ++ c) (b ++ d):=by
 induction h with
 | nil=>exact g
 | cons r _ ih=>exact .cons r ih
section
variable {P:Program}{w:World}{K:PySem.W.Frag}{mg:Str->Option Value}{base:Heap}
def qij (N:Nat):Sp:=fun vs H Q _=>∃ (n b mx:Nat),vs=[.int (n:Int),.int (b:Int),.int (mx:Int)]/\1≤n/\n≤N/\n≤6/\b≤100/\mx≤100/\(allL n b mx).length≤1000 /\
 ∀ (q:Addr) (bs:List Addr) (H':Hp),Same H H'->H' q=some (.lst (bs.map V.ref))->qbh H' bs (allL n b mx)->Q (.ref q) H'
theorem qkd (F:FunAt K mg "_law_all" ["_law_n", "_law_balls", "_law_most"] s_l_all):Cal P w K mg base "_law_all" ["_law_n", "_law_balls", "_law_most"] 1 (qij 0):=by
 refine F.cal qdO (fun vs H Q E h=>?_) (fun f cdv A outer s H vs Q E hr h=>?_)
 ·obtain ⟨n,b,mx,rfl,_⟩:=h; rfl
 obtain ⟨n,b,mx,rfl,h1,h2,_⟩:=h
 omega
theorem qcu {N:Nat}(T:Txt2 mg)(F:FunAt K mg "_law_all" ["_law_n", "_law_balls", "_law_most"] s_l_all)(C_l_all:Cal P w K mg base "_law_all" ["_law_n", "_law_balls", "_law_most"] (N + 1) (qij N)):Cal P w K mg base "_law_all" ["_law_n", "_law_balls", "_law_most"] (N + 2) (qij (N + 1)):=by
 have S:=qdO
 refine F.cal qdO (fun vs H Q E h=>?_) (fun f cdv A outer s H vs Q E hr h=>?_)
 ·obtain ⟨n,b,mx,rfl,_⟩:=h; rfl
 obtain ⟨n,b,mx,rfl,n1,nN,n6,b1,m1,few,kont⟩:=h
 refine ⟨_,(@pK _ _ _ _ _ (@qa8 _ _ _ _ _ _ _ _ (@qaq _ _ _ _ _ _ _ _ qdq (pv 0) pI (by exact (qal _))) (@pO _ _ _ (@qag _ _ _ _ (@pP _ _ _ _ _ _ _ _ qg6 (@qaN _ _ _ _ (@pC _ _ _ _ _ (@qar _ _ _ _ _ (@pC _ _ _ _ _ (pv 1) pN ⋯)) pN ⋯)) (@qbk _ _ _ _ _ _ _ _ _ qeI ⋯ (by exact T.z_int) (by exact qeL) (@pC _ _ _ _ _ (@qa4 _ _ _ _ _ _ _ _ qlf (pv 1) (pv 2) (by exact (qal _))) pN ⋯) ⋯ ⋯ ⋯ ⋯)))) qau) (@pK _ _ _ _ _ (@pZ _ _ (3) _ _ _ _ (by exact S.nd) ⋯ ⋯ (@qaN _ _ _ _ pN) ⋯ ⋯) (@pK _ _ _ _ _ (@qbK _ _ _ _ _ _ _ _ (by exact PassesOwn.never) ⋯ (@qcd _ _ _ _ _ _ ⋯ (by exact T.z_range) (@pC _ _ _ _ _ (@pP _ _ _ _ _ _ _ _ qaJ (@qab _ _ _ _ _ _ _ _ _ (qhW ⋯) ⋯ (by exact T.z_min) (by exact qlR) (@pC _ _ _ _ _ (pv 1) (@pC _ _ _ _ _ (pv 2) pN ⋯) ⋯) ⋯ ⋯ ⋯ ⋯) pI) pN ⋯) ⋯) (@pG _ _ (4) _ (by exact S.nd) ⋯ ⋯ ⋯) (@pO _ _ _ (@qjP _ _ _ _ (@pe_bm _ _ _ _ _ _ _ _ _ _ _ _ (by exact PySem.F.plainAttrs_list) (by exact PySem.F.slot_list_extend) (by exact PySem.F.type_list_extend) qhj (pv 3) (@pC _ _ _ _ _ (@qbr _ _ _ _ _ _ _ _ _ _ _ _ _ ⋯ (by exact (fun _ _ h=>h)) (by decide +kernel) ⋯ (by decide +kernel) (by exact qbZ rfl) (by exact Sees.frees ["_law_rest"] [("_law_first",4)] (qdi ⟨rfl,rfl⟩ qb0)) (@qbe _ _ _ _ (@cc _ _ _ _ _ _ _ _ _ _ (by exact C_l_all) (by exact (hr.mono (Nat.le_refl _))) (@pC _ _ _ _ _ (@pP _ _ _ _ _ _ _ _ qen (pv 0) pI) (@pC _ _ _ _ _ (@pP _ _ _ _ _ _ _ _ qen (pv 1) (pv 4)) (@pC _ _ _ _ _ (pv 4) pN ⋯) ⋯) ⋯) ⋯ ⋯ ⋯ ⋯)) (fun _ _ _ _ _ => @pG _ _ (0) _ (by exact (show (["_law_rest", "_law_first"]:List Str).Nodup by decide +kernel)) ⋯ ⋯ ⋯) (fun _ _ _ _ _=>qba) (fun _ _ _ _ _=>(@pP _ _ _ _ _ _ _ _ (qg8 K ⋯) (@qar _ _ _ _ _ (@pC _ _ _ _ _ (pv 1) pN ⋯)) (pv 0))) ⋯) pN ⋯) ⋯ ⋯ ⋯ ⋯ ⋯) ⋯)) ⋯) (@pO _ _ _ (@qag _ _ _ _ (pv 3)))))),?_⟩
 refine ⟨_,rfl,rfl,_,rfl,ite2 (fun c=>?_) (fun c=>?_)⟩
 ·have n1:n=1:=by
   have:V.int (n:Int)=V.int 1:=by simpa using c
   have:=V.int.inj this
   omega
  subst n1
  rw [qkG] at kont
  refine ⟨_,rfl,(by show 1≤sizeLine; decide),fun t ht=>⟨(by show 1≤sizeLine; decide),fun l hl=>?_⟩⟩
  refine ⟨_,rfl,_,rfl,_,_,rfl,rfl,.inr ⟨_,rfl,?_⟩⟩
  have s1:=sN ht (.tup [.int (b:Int)])
  have s2:=sN hl (.lst [.ref t])
  have g1:=s2 _ _ (uS (H:=H) (a:=t) (o := .tup [.int (b:Int)]))
  by_cases e:b≤mx
  ·rw [if_pos e] at kont
   have ed:decide ((b:Int)≤(mx:Int))=true:=decide_eq_true (by omega)
   rw [ed]
   refine ⟨l,_,_,rfl,rfl,uS,(by decide),(by decide),(by show 1 * 1≤sizeLine; decide),fun p hp=>?_⟩
   have s3:=sN hp (.lst [.ref t])
   exact kont p [t] _ (s1.trans (s2.trans s3)) uS (.cons (s3 _ _ g1) .nil)
  ·rw [if_neg e] at kont
   have ed:decide ((b:Int)≤(mx:Int))=false:=decide_eq_false (by omega)
   rw [ed]
   refine ⟨l,_,_,rfl,rfl,uS,(by decide),(by decide),(by show 1 * 0≤sizeLine; decide),fun p hp=>?_⟩
   have s3:=sN hp (.lst [])
   exact kont p [] _ (s1.trans (s2.trans s3)) uS .nil
 ·have n2:n≠1:=fun e=>c (by subst e; rfl)
  obtain ⟨n',rfl⟩:∃ n',n=n' + 1:=⟨n - 1,by omega⟩
  have eM:allL (n' + 1) b mx=allI n' b (min b mx + 1):=rfl
  rw [eM] at few kont
  refine ⟨(by show 0≤sizeLine; decide),fun l hl=>?_⟩
  refine gN_ ?_
  have em:((if (mx:Int) < (b:Int) then (mx:Int) else (b:Int)) + 1).toNat=min b mx + 1:=by split <;> omega
  refine ⟨_,rfl,_,rfl,_,_,rfl,_,_,rfl,rfl,_,rfl,by split <;> omega,by split <;> omega,qci (n:=((if (mx:Int) < (b:Int) then (mx:Int) else (b:Int)) + 1).toNat) (fun j σ H'=>SmB l H H'/\∃ (bs:List Addr) (o4:Option V),σ=[some (.int ((n' + 1:Nat):Int)),some (.int (b:Int)),some (.int (mx:Int)),some (.ref l),o4]/\H' l=some (.lst (bs.map V.ref))/\qbh H' bs (allI n' b j)) ?_ ?_ ?_⟩
  ·exact ⟨fun b u n e=>by rw [uE n]; exact e,[],_,rfl,uS,.nil⟩
  ·rintro j σ H1 hj ⟨s1,bs,o4,rfl,hl1,tb⟩
   rw [em] at hj
   have f1:=qkH (n:=n') (b:=b) (show j + 1≤min b mx + 1 by omega)
   rw [qdn,List.length_append,List.length_map] at f1
   rw [Int.zero_add]
   refine ⟨_,rfl,.inl ⟨rfl,_,SqL.of hl1⟩,?_⟩
   refine ⟨_,rfl,_,_,rfl,rfl,_,rfl,_,rfl,_,_,rfl,rfl,_,rfl,n',b - j,j,?_,by omega,by omega,by omega,by omega,by omega,by omega,fun q bs2 H2 s2 hq tb2=>?_⟩
   ·show [V.int (((n' + 1:Nat):Int) - 1),V.int ((b:Int) - (j:Int)),V.int (j:Int)]=_
    rw [show ((n' + 1:Nat):Int) - 1=(n':Int) by omega,show (b:Int) - (j:Int)=((b - j:Nat):Int) by omega]
   have bl:=Paired.length tb
   have bl2:=Paired.length tb2
   have hl2:=s2 _ _ hl1
   refine ⟨q,rfl,⟨_,SqL.of hq⟩,qb2 (qaT (xs:=bs2.map V.ref)) (fun p i ys σ' H'=>Same H2 H'/\(∃ o1,σ'=[o1,some (.int (j:Int))])/\∃ bs3:List Addr,ys=bs3.map V.ref/\qbh H' bs3 (((allL n' (b - j) j).take i).map fun l=>(j:Int) :: l)) (by rw [List.length_map]; omega) ?_ ?_ ?_ ?_⟩
   ·exact fun p hp=>⟨sN hp _,⟨_,rfl⟩,[],rfl,.nil⟩
   ·rintro p i ys σ' H' hp ⟨s',_⟩
    exact s' _ _ hq
   ·rintro p i ys σ' H' x H'' hp hi hl' ⟨s',⟨o1,rfl⟩,bs3,rfl,tb3⟩ hp' ⟨rfl,hx⟩ Q1 Q2 h1 h2
    rw [List.getElem?_map,Option.map_eq_some_iff] at hx
    obtain ⟨b2,hb2,rfl⟩:=hx
    obtain ⟨k,hk,hbk⟩:=qan tb2 hb2
    have kl:k.length=n':=(qh1 _ _ _ k (List.mem_of_getElem? hk)).1.len
    refine gN_ ?_
    refine tT_ (iteT ⟨_,rfl,(by show 1≤sizeLine; decide),fun t ht=>?_⟩)
    have s4:=sN ht (.tup [.int (j:Int)])
    refine ⟨_,rfl,t,b2,_,_,rfl,rfl,SqT.of uS,SqT.of (s4 _ _ (s' _ _ hbk)),(by rw [sizeLine_eq]; simp; omega),fun e=>absurd e (by simp),fun _ e=>absurd (congrArg List.length e) (by rw [List.length_map,kl]; simp; omega),fun _ _ t2 ht2=>?_⟩
    have s5:=sN ht2 (.tup (iv ((j:Int) :: k)))
    have s45:=s4.trans s5
    have g2:=fun H=>uS (H:=H) (a:=t2) (o := .tup (iv ((j:Int) :: k)))
    have hp5:=s45 _ _ hp'
    refine h1 _ _ _ hp5 ⟨qaL hp (s'.trans s45) _,⟨_,rfl⟩,bs3 ++ [t2],by simp,?_⟩
    rw [take_snoc hk,List.map_append]
    exact Paired.snoc (Paired.imp' (fun b k e=>qbJ hp5 (s45 _ _ e)) tb3) (qbJ hp5 (g2 _))
   ·rintro p ys σ' H3 hp ⟨s3,_,bs3,rfl,tb3⟩ hp' hl'
    rw [List.length_map,bl2,List.take_length] at tb3
    have bl3:=Paired.length tb3
    rw [List.length_map] at bl3
    have hl3:=s3 _ _ hl2
    refine ⟨l,p,_,_,rfl,rfl,hl3,hp',(by rw [sizeLine_eq]; simp; omega),?_⟩
    refine ⟨(s1.trans (.of (s2.trans s3))).upd _,bs ++ bs3,_,rfl,by rw [uS,List.map_append],?_⟩
    rw [qdn]
    exact qf9 (Paired.imp' (fun b k e=>qbJ hl3 ((s2.trans s3) _ _ e)) tb) (Paired.imp' (fun b k e=>qbJ hl3 e) tb3)
  ·rintro σ H1 ⟨s1,bs,o4,rfl,hl1,tb⟩
   rw [em] at tb
   exact ⟨_,rfl,kont l bs _ (fun b u e=>s1 b u (qaf e hl) e) hl1 tb⟩
end
theorem qam.get' {H:Hp}:∀ {xs:List V} {ds:List PyData} {i:Nat} {x:V},qam H xs ds->xs[i]?=some x->∃ d,ds[i]?=some d/\qaP H x d
 | _,_,i,_,.nil,h=>by simp at h
 | _,_,0,_,.cons hx r,h=>by
  have:=Option.some.inj (by simpa using h)
  subst this
  exact ⟨_,rfl,hx⟩
 | _,_,i + 1,_,.cons hx r,h=>by
  obtain ⟨d,h1,h2⟩:=qam.get' (i:=i) r (by simpa using h)
  exact ⟨d,by simpa using h1,h2⟩
def nnD:PyData->Bool
 | .int i=>decide (0≤i)
 | _=>false
def numD:PyData->Int
 | .int i=>i
 | _=>0
def qeC (ns:List Int):Bool:=(List.zipWith (fun x y=>decide (y≤x)) ns ns.tail).all id
def qaD:PyData->Bool
 | .tuple ds=>decide (1≤ds.length) && decide (ds.length≤6) && ds.all nnD && qeC (ds.map numD)
 | _=>false
theorem qkg {d:PyData}(h:nnD d=true):∃ i,d = .int i/\0≤i:=by
 cases d with
 | int i=>exact ⟨i,rfl,of_decide_eq_true h⟩
 | _=>cases h
theorem qfo {H:Hp}:∀ {xs:List V} {ds:List PyData},qam H xs ds->ds.all nnD=true->xs=iv (ds.map numD)
 | _,_,.nil,_=>rfl
 | _,_,.cons (d:=d) (ds:=ds) hx r,h=>by
  have h':nnD d=true/\ds.all nnD=true:=by simpa using h
  obtain ⟨i,rfl,_⟩:=qkg h'.1
  cases hx
  rw [qfo r h'.2]; rfl
theorem qi1:∀ ns ms:List Int,List.zipWith (fun x y=>match x,y with | .int a,.int b=>V.bl (decide (b≤a)) | _,_ => .non) (iv ns) (iv ms)=(List.zipWith (fun x y=>decide (y≤x)) ns ms).map V.bl
 | [],_=>by simp
 | _ :: _,[]=>by simp
 | n :: ns,m :: ms=>by
  show V.bl (decide (m≤n)) :: _=V.bl (decide (m≤n)) :: _
  rw [<- qi1 ns ms]
theorem qd2 (ns:List Int):qeC ns=true↔∀ i,i + 1 < ns.length->ns.getD (i + 1) 0≤ns.getD i 0:=by
 unfold qeC
 rw [List.all_eq_true]
 constructor
 ·intro h i hi
  have hz:i < (List.zipWith (fun x y=>decide (y≤x)) ns ns.tail).length:=by simp; omega
  have:=h _ (List.getElem_mem hz)
  rw [List.getElem_zipWith,List.getElem_tail] at this
  rw [qaa hi,qaa (by omega)]
  simpa using this
 ·intro h x hx
  obtain ⟨i,hi,rfl⟩:=List.mem_iff_getElem.mp hx
  have hi':i + 1 < ns.length:=by simp at hi; omega
  have:=h i hi'
  rw [qaa hi',qaa (by omega)] at this
  rw [List.getElem_zipWith,List.getElem_tail]
  simpa using this
def rowD:PyData->Bool
 | .tuple [_,_]=>true
 | _=>false
def fstD:PyData->PyData
 | .tuple (a :: _)=>a
 | _ => .none
def sndD:PyData->PyData
 | .tuple (_ :: b :: _)=>b
 | _ => .none
def qhg:PyData->List Int
 | .tuple ds=>ds.map numD
 | _=>[]
def posD:PyData->Bool
 | .tuple [.int a,.int b]=>decide (1≤b) && decide (gI a b=1) && decide (0 < a)
 | _=>false
def qD:PyData->Rat
 | .tuple [.int a,.int b]=>if 1≤b then Rat.divInt a b else 0
 | _=>0
def qdo (ls:List (List Int)):Bool:=ls.all fun l=>decide (l.length=(ls.headD []).length) && decide (l.sum=(ls.headD []).sum)
def qej (ls:List (List Int)):Bool:=(List.zipWith lexI ls ls.tail).all id
def lsD (ds:List PyData):List (List Int):=ds.map fun d=>qhg (fstD d)
def qsD (ds:List PyData):List Rat:=ds.map fun d=>qD (sndD d)
def qaE:PyData->Bool
 | .list ds=>ds.all rowD && (ds.all fun d=>qaD (fstD d)) && (qdo (lsD ds) && (qej (lsD ds) && ((ds.all fun d=>posD (sndD d)) && decide ((qsD ds).foldl (· + ·) 0=1))))
 | _=>false
structure FitV (ds:List PyData):Prop where
 len:ds.length≤300
 tup:∀ e∈ds,∀ fs,fstD e = .tuple fs->fs.length≤1000
 sb:∀ q∈qsD ds,SB 110 q
 part:∀ i,SB 2000 (((qsD ds).take i).foldl (· + ·) 0)
theorem qfA {d:PyData}(h:rowD d=true):∃ a b,d = .tuple [a,b]:=by
 cases d with
 | tuple ds =>
  match ds,h with
  | [a,b],_=>exact ⟨a,b,rfl⟩
 | _=>cases h
theorem qgV {ds:List PyData}:rowD (.tuple ds)=decide (ds.length=2):=by
 match ds with
 | []=>rfl
 | [_]=>rfl
 | [_,_]=>rfl
 | _ :: _ :: _ :: l=>simp [rowD]
theorem qc5 {d:PyData}(h:posD d=true):∃ a b:Int,d = .tuple [.int a,.int b]/\1≤b/\gI a b=1/\0 < a:=by
 unfold posD at h
 split at h
 ·rename_i a b
  simp only [Bool.and_eq_true,decide_eq_true_eq] at h
  exact ⟨a,b,rfl,h.1.1,h.1.2,h.2⟩
 ·cases h
theorem qfa {d:PyData}(h:qbB d=true):∃ a b:Int,d = .tuple [.int a,.int b]/\1≤b/\gI a b=1:=by
 unfold qbB at h
 split at h
 ·simp only [Bool.and_eq_true,decide_eq_true_eq] at h
  exact ⟨_,_,rfl,h.1,h.2⟩
 ·cases h
theorem data2 {H:Hp}{v:V}{a b:Int}(h:qaP H v (.tuple [.int a,.int b])):∃ p,v = .ref p/\H p=some (.tup [.int a,.int b]):=by
 cases h with
 | tup hp hl =>
  cases hl with
  | cons h1 r1=>cases r1 with
   | cons h2 r2=>cases r2 with
    | nil =>
     cases h1
     cases h2
     exact ⟨_,rfl,hp⟩
theorem red {a b:Int}(hb:1≤b)(hg:gI a b=1):(Rat.divInt a b).num=a/\((Rat.divInt a b).den:Int)=b:=by
 have e:=qbw (t:=a) (b:=b) (by omega)
 rw [hg,Int.ediv_one,Int.ediv_one] at e
 exact ⟨e.1.symm,e.2.symm⟩
theorem qfE {d:PyData}(h:qbB d=false):posD d=false:=by
 cases e:posD d with
 | false=>rfl
 | true =>
  obtain ⟨a,b,rfl,b1,g1,_⟩:=qc5 e
  simp [qbB,b1,g1] at h
section
variable {P:Program}{w:World}{K:PySem.W.Frag}{mg:Str->Option Value}{base:Heap}
def qdM:Sp:=fun vs H Q _=>∃ v d,vs=[v]/\qaP H v d/\(∀ ds,d = .tuple ds->ds.length≤1000)/\∀ H',Same H H'->Q (.bl (qaD d)) H'
theorem qhd (T:Txt2 mg){tk:Tok}(hmr:mg "MOST_BOXES" = some (.int 6 tk))(C_is_whole:Cal P w K mg base "is_whole" ["thing"] 1 qdK)(F:FunAt K mg "is_load" ["thing"] s_is_load):Cal P w K mg base "is_load" ["thing"] 2 qdM:=by
 have S:=qdv
 refine F.cal qdv (fun vs H Q E h=>?_) (fun f cdv A outer s H vs Q E hr h=>?_)
 ·obtain ⟨a,d,rfl,_⟩:=h; rfl
 obtain ⟨a,d,rfl,hd,hlen,k⟩:=h
 refine ⟨_,(@pK _ _ _ _ _ (@qa8 _ _ _ _ _ _ _ _ (@PW.pt _ _ _ (@qbq _ _ _ _ _ _ _ (@qa1 _ _ _ _ (@qaM _ _ _ (@qab _ _ _ _ _ _ _ _ _ qaH ⋯ (by exact T.z_isinstance) (by exact qae) (@pC _ _ _ _ _ (pv 0) (@pC _ _ _ _ _ (@qaU _ _ (.ty "tuple") _ _ ⋯ (by exact T.z_tuple) (by exact qbp) ⋯ ⋯ ⋯) pN ⋯) ⋯) ⋯ ⋯ ⋯ ⋯) ⋯)) (@qbq _ _ _ _ _ _ _ (@qaq _ _ _ _ _ _ _ _ qep (@qab _ _ _ _ _ _ _ _ _ qaj ⋯ (by exact T.z_len) (by exact qbd) (@pC _ _ _ _ _ (pv 0) pN ⋯) ⋯ ⋯ ⋯ ⋯) pI (by exact (qal _))) (@qbm _ _ _ _ (@qaq _ _ _ _ _ _ _ _ qeq (@qab _ _ _ _ _ _ _ _ _ qaj ⋯ (by exact T.z_len) (by exact qbd) (@pC _ _ _ _ _ (pv 0) pN ⋯) ⋯ ⋯ ⋯ ⋯) (@qjX _ _ (.int 6) _ _ ⋯ (by exact hmr) (by exact ⟨_,rfl⟩) ⋯) (by exact (qal _))))))) (@pO _ _ _ (@qag _ _ _ _ qbi)) qau) (@pK _ _ _ _ _ (@qa8 _ _ _ _ _ _ _ _ (@qa1 _ _ _ _ (@qaM _ _ _ (@qab _ _ _ _ _ _ _ _ _ (qbE ⋯) ⋯ (by exact T.z_all) (by exact qdm) (@pC _ _ _ _ _ (@qbr _ _ _ _ _ _ _ _ _ _ _ _ _ ⋯ (by exact (fun _ _ h=>h)) (by decide +kernel) ⋯ (by decide +kernel) (by exact qbZ rfl) (by exact Sees.frees ["number"] [] qb0) (@qg2 _ _ _ _ (pv 0)) (fun _ _ _ _ _ => @pG _ _ (0) _ (by exact (show (["number"]:List Str).Nodup by decide +kernel)) ⋯ ⋯ ⋯) (fun _ _ _ _ _=>qba) (fun _ _ _ _ _=>(@qce _ _ _ _ _ _ _ (@cc _ _ _ _ _ _ _ _ _ _ (by exact C_is_whole) (by exact (hr.mono (by decide))) (@pC _ _ _ _ _ (pv 0) pN ⋯) ⋯ ⋯ ⋯ ⋯) (@qcH _ _ _ _ _ (@qa4 _ _ _ _ _ _ _ _ qj5 (pv 0) pI (by exact (qal _)))))) ⋯) pN ⋯) ⋯ ⋯ ⋯ ⋯) ⋯)) (@pO _ _ _ (@qag _ _ _ _ qbi)) qau) (@pO _ _ _ (@qag _ _ _ _ (@qab _ _ _ _ _ _ _ _ _ (qbE ⋯) ⋯ (by exact T.z_all) (by exact qdm) (@pC _ _ _ _ _ (@qbr _ _ _ _ _ _ _ _ _ _ _ _ _ ⋯ (by exact (fun _ _ h=>h)) (by decide +kernel) ⋯ (by decide +kernel) (by exact qbZ rfl) (by exact Sees.frees ["ahead", "behind"] [] qb0) (@qg1 false false _ _ _ _ _ _ _ _ _ ⋯ (by exact T.z_zip) (@pC _ _ _ _ _ (pv 0) (@pC _ _ _ _ _ (@qas _ _ _ _ _ _ _ _ _ _ qcq (pv 0) (@qaz _ _ _ pI) qaC) pN ⋯) ⋯) ⋯ ⋯) (fun _ _ _ _ _ => @qcr _ _ _ _ _ (2) ⋯ (@qai _ _ _ _ _ (@pG _ _ (0) _ (by exact (show (["ahead", "behind"]:List Str).Nodup by decide +kernel)) ⋯ ⋯ ⋯) (@qai _ _ _ _ _ (@pG _ _ (1) _ (by exact (show (["ahead", "behind"]:List Str).Nodup by decide +kernel)) ⋯ ⋯ ⋯) qaX ⋯) ⋯) ⋯ ⋯) (fun _ _ _ _ _=>qba) (fun _ _ _ _ _=>(@qa4 _ _ _ _ _ _ _ _ qj5 (pv 0) (pv 1) (by exact (qal _)))) ⋯) pN ⋯) ⋯ ⋯ ⋯ ⋯))))),?_⟩
 obtain ⟨t,ty,_,_,e3,_⟩:=tyOf (K:=K) hd
 refine ⟨_,rfl,_,_,_,_,rfl,ty,e3,_,rfl,?_⟩
 clear ty
 cases hd with
 | @tup p xs ds hp hl =>
  have hlx:=hl.length
  have hl1000:=hlen ds rfl
  refine iteF ?_
  refine ⟨_,rfl,p,xs,rfl,.inr (SqT.of hp),_,_,rfl,rfl,_,rfl,?_⟩
  refine ite2 (fun c=>?_) (fun c=>?_)
  ·have e:qaD (.tuple ds)=false:=by
    have:((xs.length:Nat):Int) < 1:=of_decide_eq_true c
    have h0:¬ 1≤ds.length:=by omega
    simp [qaD,h0]
   have:=k H (Same.refl _)
   rw [e] at this
   exact this
  refine ⟨_,rfl,p,xs,rfl,.inr (SqT.of hp),_,_,rfl,rfl,_,rfl,?_⟩
  refine ite2 (fun c1=>?_) (fun c1=>?_)
  ·have e:qaD (.tuple ds)=false:=by
    have:(6:Int) < ((xs.length:Nat):Int):=of_decide_eq_true c1
    have h0:¬ ds.length≤6:=by omega
    simp [qaD,h0]
   have:=k H (Same.refl _)
   rw [e] at this
   exact this
  have n1:1≤ds.length:=by
   have:¬ ((xs.length:Nat):Int) < 1:=by simpa using c
   omega
  have n2:ds.length≤6:=by
   have:¬ (6:Int) < ((xs.length:Nat):Int):=by simpa using c1
   omega
  refine ⟨_,rfl,p,rfl,⟨_,SqT.of hp⟩,qkD (a:=p) (xs:=xs) (fs:=[]) (fun acc i ys H'=>Same H H'/\ys=((ds.take i).map fun d=>V.bl (nnD d))) (by omega) ?_ ?_ ?_ ?_⟩
  ·intro acc hacc
   exact ⟨sN hacc _,rfl⟩
  ·rintro acc i ys H' hacc ⟨s',_⟩
   exact s' _ _ hp
  ·rintro acc i ys H' x hacc hi hlen ⟨s',rfl⟩ hH' Q' hQ
   obtain ⟨d,hdi,hvd⟩:=qam.get' hl hi
   have fin:∀ b:Bool,b=nnD d->Q' (.bl b) H':=fun b hb=>hQ _ H' hH' ⟨qaL hacc s' _,by rw [List.take_add_one,hdi,List.map_append,hb]; rfl⟩
   refine ⟨_,rfl,x,d,rfl,hvd.same s',_,rfl,?_⟩
   cases hvd with
   | int i=>exact iteT ⟨_,rfl,_,_,rfl,rfl,fin _ rfl⟩
   | _=>exact iteF (fin false rfl)
  rintro acc ys H' hacc ⟨s',rfl⟩ hH' hlen'
  rw [hlx,List.take_length] at hH'
  have eb:(ds.map fun d=>V.bl (nnD d))=(ds.map nnD).map V.bl:=by rw [List.map_map]; rfl
  rw [eb] at hH'
  refine ⟨acc,ds.map nnD,rfl,hH',_,rfl,?_⟩
  have ea:(ds.map nnD).all id=ds.all nnD:=by rw [List.all_map]; rfl
  rw [ea]
  refine ite2 (fun c2=>?_) (fun c2=>?_)
  ·have c3:ds.all nnD=false:=by simpa using c2
   have e:qaD (.tuple ds)=false:=by simp only [qaD,c3,Bool.and_false,Bool.false_and]
   have:=k H' s'
   rw [e] at this
   exact this
  have c3:ds.all nnD=true:=by simpa using c2
  have exs:=qfo hl c3
  have hp':=s' _ _ hp
  rw [exs] at hp'
  refine ⟨_,rfl,_,rfl,_,rfl,p,_,rfl,hp',fun c H2 s2 hc=>?_⟩
  have e1:cutV (iv (ds.map numD)) (some 1) none=iv (ds.map numD).tail:=by
   have:=qbT (xs:=iv (ds.map numD)) (k:=1) (by simp; omega)
   rw [show ((1:Nat):Int)=1 from rfl] at this
   rw [this,qhv,List.drop_one]
  rw [e1] at hc
  refine ⟨p,c,rfl,⟨_,SqT.of (s2 _ _ hp')⟩,⟨_,SqT.of hc⟩,qeF (b1:=false) (b2:=false) (fs:=[]) (fun x y=>match x,y with | .int a,.int b=>V.bl (decide (b≤a)) | _,_ => .non) (s2 _ _ hp') hc (by simp; omega) ?_ fun r H3 s3 hr3=>?_⟩
  ·intro i x y hx hy H4 Q' s4 hq
   obtain ⟨u,_,rfl⟩:=qly hx
   obtain ⟨v,_,rfl⟩:=qly hy
   exact ⟨_,rfl,_,rfl,_,_,rfl,rfl,hq H4 (Same.refl _)⟩
  rw [qi1] at hr3
  refine ⟨r,_,rfl,hr3,?_⟩
  have:=k H3 (s'.trans (s2.trans s3))
  have e:qaD (.tuple ds)=qeC (ds.map numD):=by simp only [qaD,c3,n1,n2,decide_true,Bool.true_and,Bool.and_true]
  rw [e] at this
  exact this
 | _=>exact iteT (k H (Same.refl _))
theorem qfb {ds:List PyData}{i:Nat}{d:PyData}(hi:ds[i]?=some d)(h:isI d=false):qbB (.tuple ds)=false:=by
 cases e:qbB (.tuple ds) with
 | false=>rfl
 | true =>
  obtain ⟨a,b,e2,_,_⟩:=qfa e
  cases e2
  match i,hi with
  | 0,hi=>cases hi; simp [isI] at h
  | 1,hi=>cases hi; simp [isI] at h
  | i + 2,hi=>simp at hi
theorem qe4 (T:Txt2 mg)(C_l_measure:Cal P w K mg base "_law_measure" ["_law_a", "_law_b"] 1 qco)(F:FunAt K mg "_law_is_share" ["_law_thing"] s_l_is_share):Cal P w K mg base "_law_is_share" ["_law_thing"] 2 qdL:=by
 have S:=qcb
 refine F.cal qcb (fun vs H Q E h=>?_) (fun f cdv A outer s H vs Q E hr h=>?_)
 ·obtain ⟨a,d,rfl,_⟩:=h; rfl
 obtain ⟨a,d,rfl,hd,k⟩:=h
 refine ⟨_,(@pK _ _ _ _ _ (@qa8 _ _ _ _ _ _ _ _ (@PW.pt _ _ _ (@qbq _ _ _ _ _ _ _ (@qa1 _ _ _ _ (@qaM _ _ _ (@qab _ _ _ _ _ _ _ _ _ qaH ⋯ (by exact T.z_isinstance) (by exact qae) (@pC _ _ _ _ _ (pv 0) (@pC _ _ _ _ _ (@qaU _ _ (.ty "tuple") _ _ ⋯ (by exact T.z_tuple) (by exact qbp) ⋯ ⋯ ⋯) pN ⋯) ⋯) ⋯ ⋯ ⋯ ⋯) ⋯)) (@qbm _ _ _ _ (@qaq _ _ _ _ _ _ _ _ qeo (@qab _ _ _ _ _ _ _ _ _ qaj ⋯ (by exact T.z_len) (by exact qbd) (@pC _ _ _ _ _ (pv 0) pN ⋯) ⋯ ⋯ ⋯ ⋯) pI (by exact (qal _)))))) (@pO _ _ _ (@qag _ _ _ _ qbi)) qau) (@pK _ _ _ _ _ (@qbK _ _ _ _ _ _ _ _ (by exact PassesOwn.never) ⋯ (@qg2 _ _ _ _ (pv 0)) (@pG _ _ (1) _ (by exact S.nd) ⋯ ⋯ ⋯) (@pO _ _ _ (@qa8 _ _ _ _ _ _ _ _ (@PW.pt _ _ _ (@qbq _ _ _ _ _ _ _ (@qa1 _ _ _ _ (@qaM _ _ _ (@qab _ _ _ _ _ _ _ _ _ qaH ⋯ (by exact T.z_isinstance) (by exact qae) (@pC _ _ _ _ _ (pv 1) (@pC _ _ _ _ _ (@qaU _ _ (.ty "int") _ _ ⋯ (by exact T.z_int) (by exact qeL) ⋯ ⋯ ⋯) pN ⋯) ⋯) ⋯ ⋯ ⋯ ⋯) ⋯)) (@qbm _ _ _ _ (@qaM _ _ _ (@qab _ _ _ _ _ _ _ _ _ qaH ⋯ (by exact T.z_isinstance) (by exact qae) (@pC _ _ _ _ _ (pv 1) (@pC _ _ _ _ _ (@qaU _ _ (.ty "bool") _ _ ⋯ (by exact T.z_bool) (by exact qd6) ⋯ ⋯ ⋯) pN ⋯) ⋯) ⋯ ⋯ ⋯ ⋯) ⋯)))) (@pO _ _ _ (@qag _ _ _ _ qbi)) qau)) ⋯) (@pO _ _ _ (@qag _ _ _ _ (@qce _ _ _ _ _ _ _ (@qa4 _ _ _ _ _ _ _ _ qeq (@qaA _ _ _ _ _ _ _ qay (pv 0) pI (by exact (fun _ _=>rfl))) pI (by exact (qal _))) (@qcH _ _ _ _ _ (@qa4 _ _ _ _ _ _ _ _ qdq (@cc _ _ _ _ _ _ _ _ _ _ (by exact C_l_measure) (by exact (hr.mono (by decide))) (@pC _ _ _ _ _ (@qab _ _ _ _ _ _ _ _ _ qbU ⋯ (by exact T.z_abs) (by exact qdF) (@pC _ _ _ _ _ (@qaA _ _ _ _ _ _ _ qay (pv 0) pI (by exact (fun _ _=>rfl))) pN ⋯) ⋯ ⋯ ⋯ ⋯) (@pC _ _ _ _ _ (@qaA _ _ _ _ _ _ _ qay (pv 0) pI (by exact (fun _ _=>rfl))) pN ⋯) ⋯) ⋯ ⋯ ⋯ ⋯) pI (by exact (qal _))))))))),?_⟩
 obtain ⟨t,ty,_,_,e3,_⟩:=tyOf (K:=K) hd
 refine ⟨_,rfl,_,_,_,_,rfl,ty,e3,_,rfl,?_⟩
 clear ty
 cases hd with
 | @tup p xs ds hp hl =>
  refine iteF ?_
  refine ⟨_,rfl,p,xs,rfl,.inr (SqT.of hp),rfl,_,rfl,?_⟩
  refine ite2 (fun c=>?_) (fun c=>?_)
  ·rw [qfK (fun z=>qji c (by rw [hl.length,z]; rfl))] at k
   exact k
  have hL2:=len_eq (m:=2) c
  refine ⟨_,rfl,p,rfl,⟨_,SqT.of hp⟩,qhE (xs:=xs) (fun i σ H'=>H'=H/\(∃ o,σ=[some (.ref p),o])/\∀ j d,j < i->ds[j]?=some d->isI d=true) ⟨rfl,⟨_,rfl⟩,fun j d hj=>absurd hj (by omega)⟩ (fun i σ H' _ ⟨e,_⟩=>by rw [e]; exact SqT.of hp) ?_ ?_⟩
  ·rintro i x σ H' hi ⟨rfl,⟨o,rfl⟩,hall⟩
   obtain ⟨d,hdi,hxd⟩:=qam.get' hl hi
   obtain ⟨t',ty',e1,e2,_,_⟩:=tyOf (K:=K) hxd
   refine ⟨_,rfl,_,_,_,_,rfl,ty',e1,_,rfl,?_⟩
   have next:isI d=true->∀ j d',j < i + 1->ds[j]?=some d'->isI d'=true:=fun hd j d' hj hj'=>by
    by_cases e:j < i
    ·exact hall j d' e hj'
    ·have:j=i:=by omega
     subst this
     rw [hdi] at hj'
     cases hj'
     exact hd
   have stop:isI d=false->Q (.bl false) H':=fun hd=>by
    rw [qfb hdi hd] at k
    exact k
   clear ty'
   cases d with
   | int z=>exact iteF ⟨_,rfl,_,_,_,_,rfl,(by cases hxd; exact .int z),rfl,_,rfl,iteF ⟨rfl,⟨_,rfl⟩,next rfl⟩⟩
   | bool z=>exact iteF ⟨_,rfl,_,_,_,_,rfl,(by cases hxd; exact .bl z),rfl,_,rfl,iteT (stop rfl)⟩
   | _=>exact iteT (stop rfl)
  ·rintro σ H' ⟨rfl,⟨o,rfl⟩,hall⟩
   obtain ⟨x1,x2,d1,d2,rfl,rfl,h1,h2⟩:=qdI hl hL2
   have i1:=hall 0 d1 (by show 0 < 2; decide) rfl
   have i2:=hall 1 d2 (by show 1 < 2; decide) rfl
   cases h1 with
   | int i =>
    cases h2 with
    | int j =>
     refine ⟨_,rfl,p,_,_,_,rfl,rfl,SqT.of hp,rfl,_,_,rfl,rfl,_,rfl,?_⟩
     refine ite2 (fun c1=>?_) (fun c1=>?_)
     ·have j0:0 < j:=of_decide_eq_true c1
      refine ⟨_,rfl,p,_,_,_,rfl,rfl,SqT.of hp,rfl,_,rfl,_,rfl,p,_,_,_,rfl,rfl,SqT.of hp,rfl,_,_,rfl,by split <;> omega,by omega,rfl,?_⟩
      have:qbB (.tuple [.int i,.int j])=decide (V.int (gI (if i < 0 then -i else i) j)=V.int 1):=by
       rw [qkv]
       have h':(1:Int)≤j:=by omega
       simp [qbB,h']
      rw [this] at k
      exact k
     ·have:qbB (.tuple [.int i,.int j])=false:=by
       have h:¬ 0 < j:=by simpa using c1
       have h':¬ 1≤j:=by omega
       simp [qbB,h']
      rw [this] at k
      exact k
    | _=>simp [isI] at i2
   | _=>simp [isI] at i1
 | _=>exact iteT k
theorem qkh {S q:Rat}:lowF (S.num * (q.den:Int) + q.num * (S.den:Int)) ((S.den:Int) * (q.den:Int))=((S + q).num,((S + q).den:Int)):=by
 unfold lowF
 have e:=qbw (t:=S.num * (q.den:Int) + q.num * (S.den:Int)) (b:=(S.den:Int) * (q.den:Int)) (qb5 S q)
 rw [e.1,e.2,<- qkJ]
theorem qj9 (S:Rat):decide (V.int S.num=V.int (S.den:Int))=decide (S=1):=by
 refine decide_eq_decide.mpr ⟨fun h=>?_,fun h=>by rw [h]; rfl⟩
 have h':=V.int.inj h
 have e:Rat.divInt S.num (S.den:Int)=S:=Rat.num_divInt_den _
 rw [<- e,h']
 exact Rat.divInt_self' (qhM S)
end
def intV:V->Int
 | .int i=>i
 | _=>0
def qgf (H:Hp):V->List Int
 | .ref a=>match H a with
  | some (.tup xs)=>xs.map intV
  | _=>[]
 | _=>[]
theorem qdW {H:Hp}{a:Addr}{ns:List Int}(h:H a=some (.tup (iv ns))):qgf H (.ref a)=ns:=by
 simp only [qgf,h]
 unfold iv
 rw [List.map_map]
 exact List.map_id' ns
section
variable {P:Program}{w:World}{K:PySem.W.Frag}{mg:Str->Option Value}{base:Heap}
def qgN:Sp:=fun vs H Q _=>∃ (l:Addr) (bs:List Addr) (ls:List (List Int)),vs=[.ref l]/\H l=some (.lst (bs.map V.ref))/\qbh H bs ls/\ls.length≤1000/\∀ H',Same H H'->Q (.bl (qdo ls)) H'
theorem qiB (T:Txt2 mg)(F:FunAt K mg "are_alike" ["loads"] s_are_alike):Cal P w K mg base "are_alike" ["loads"] 1 qgN:=by
 have S:=qcF
 refine F.cal qcF (fun vs H Q E h=>?_) (fun f cdv A outer s H vs Q E hr h=>?_)
 ·obtain ⟨l,bs,ls,rfl,_⟩:=h; rfl
 obtain ⟨l,bs,ls,rfl,hl,tb,few,k⟩:=h
 have bl:=Paired.length tb
 refine ⟨_,(@pO _ _ _ (@qag _ _ _ _ (@qab _ _ _ _ _ _ _ _ _ (qbE ⋯) ⋯ (by exact T.z_all) (by exact qdm) (@pC _ _ _ _ _ (@qbr _ _ _ _ _ _ _ _ _ _ _ _ _ ⋯ (by exact (fun _ _ h=>h)) (by decide +kernel) ⋯ (by decide +kernel) (by exact qbZ rfl) (by exact Sees.frees ["load"] [("loads",0)] (qdi ⟨rfl,rfl⟩ qb0)) (@qbe _ _ _ _ (pv 0)) (fun _ _ _ _ _ => @pG _ _ (0) _ (by exact (show (["load", "loads"]:List Str).Nodup by decide +kernel)) ⋯ ⋯ ⋯) (fun _ _ _ _ _=>qba) (fun _ _ _ _ _=>(@qce _ _ _ _ _ _ _ (@qa4 _ _ _ _ _ _ _ _ qdq (@qab _ _ _ _ _ _ _ _ _ (qcy K ⋯) ⋯ (by exact T.z_len) (by exact qbd) (@pC _ _ _ _ _ (pv 0) pN ⋯) ⋯ ⋯ ⋯ ⋯) (@qab _ _ _ _ _ _ _ _ _ (qcy K ⋯) ⋯ (by exact T.z_len) (by exact qbd) (@pC _ _ _ _ _ (@qaA _ _ _ _ _ _ _ qfQ (pv 1) pI (by exact (fun _ _=>rfl))) pN ⋯) ⋯ ⋯ ⋯ ⋯) (by exact (qal _))) (@qcH _ _ _ _ _ (@qa4 _ _ _ _ _ _ _ _ qdq (@qab _ _ _ _ _ _ _ _ _ (qck ⋯) ⋯ (by exact T.z_sum) (by exact qeJ) (@pC _ _ _ _ _ (pv 0) pN ⋯) ⋯ ⋯ ⋯ ⋯) (@qab _ _ _ _ _ _ _ _ _ (qck ⋯) ⋯ (by exact T.z_sum) (by exact qeJ) (@pC _ _ _ _ _ (@qaA _ _ _ _ _ _ _ qfQ (pv 1) pI (by exact (fun _ _=>rfl))) pN ⋯) ⋯ ⋯ ⋯ ⋯) (by exact (qal _)))))) ⋯) pN ⋯) ⋯ ⋯ ⋯ ⋯))),?_⟩
 refine ⟨_,rfl,l,rfl,⟨_,SqL.of hl⟩,qb2 (qaT (xs:=bs.map V.ref)) (fun p i ys σ' H'=>Same H H'/\(∃ o1,σ'=[o1,some (.ref l)])/\ys=(ls.take i).map fun x=>V.bl (decide (x.length=(ls.headD []).length) && decide (x.sum=(ls.headD []).sum))) (by rw [List.length_map]; omega) ?_ ?_ ?_ ?_⟩
 ·exact fun p hp=>⟨sN hp _,⟨_,rfl⟩,rfl⟩
 ·rintro p i ys σ' H' hp ⟨s',_⟩
  exact s' _ _ hl
 ·rintro p i ys σ' H' x H'' hp hi hl' ⟨s',⟨o1,rfl⟩,rfl⟩ hp'' ⟨rfl,hx⟩ Q1 Q2 h1 h2
  rw [List.getElem?_map,Option.map_eq_some_iff] at hx
  obtain ⟨b2,hb2,rfl⟩:=hx
  obtain ⟨n,hk,hbk⟩:=qan tb hb2
  obtain ⟨b0,bs0,rfl⟩:∃ b0 bs0,bs=b0 :: bs0:=List.exists_cons_of_ne_nil (fun e=>by rw [e] at hb2; simp at hb2)
  obtain ⟨l0,ls0,rfl⟩:∃ l0 ls0,ls=l0 :: ls0:=List.exists_cons_of_ne_nil (fun e=>by rw [e] at hk; simp at hk)
  have hb0:H b0=some (.tup (iv l0)):=by cases tb with | cons h _=>exact h
  have ha0:atI ((b0 :: bs0).map V.ref) 0=some (.ref b0):=by simp [atI,ixN]
  have fin:∀ b:Bool,b=(decide (n.length=l0.length) && decide (n.sum=l0.sum))->Q1 (.bl b) _ _:=fun b hb=>h1 _ [some (.ref b2),some (.ref l)] H'' hp'' ⟨qaL hp s' _,⟨_,rfl⟩,by rw [take_snoc hk,List.map_append,hb]; rfl⟩
  have g2:=s' _ _ hbk
  have g0:=s' _ _ hb0
  have gl:=s' _ _ hl
  refine gN_ (tT_ (iteT ⟨_,rfl,b2,_,rfl,.inr (SqT.of g2),_,rfl,l,_,_,_,rfl,rfl,gl,ha0,b0,_,rfl,.inr (SqT.of g0),rfl,_,rfl,?_⟩))
  refine ite2 (fun c=>?_) (fun c=>?_)
  ·have c':n.length=l0.length:=by
    have:=V.int.inj (of_decide_eq_true c)
    rw [List.length_map,List.length_map] at this; omega
   refine ⟨_,rfl,b2,n,rfl,g2,_,rfl,l,_,_,_,rfl,rfl,gl,ha0,b0,l0,rfl,g0,rfl,fin _ ?_⟩
   rw [decide_eq_true c',Bool.true_and]
   exact decide_eq_decide.mpr ⟨fun e=>V.int.inj e,fun e=>by rw [e]⟩
  ·have c':¬ n.length=l0.length:=fun e=>c (decide_eq_true (by rw [List.length_map,List.length_map,e]))
   exact fin false (by rw [decide_eq_false c']; rfl)
 ·rintro p ys σ' H3 hp ⟨s3,_,rfl⟩ hp' hl'
  rw [List.length_map,bl,List.take_length] at hp'
  have eb:(ls.map fun x=>V.bl (decide (x.length=(ls.headD []).length) && decide (x.sum=(ls.headD []).sum)))=(ls.map fun x=>(decide (x.length=(ls.headD []).length) && decide (x.sum=(ls.headD []).sum))).map V.bl:=by rw [List.map_map]; rfl
  rw [eb] at hp'
  refine ⟨p,_,rfl,hp',?_⟩
  rw [List.all_map]
  exact k H3 s3
def qfw:Sp:=fun vs H Q _=>∃ (l:Addr) (bs:List Addr) (ls:List (List Int)),vs=[.ref l]/\H l=some (.lst (bs.map V.ref))/\qbh H bs ls/\ls.length≤1000/\∀ H',Same H H'->Q (.bl (qej ls)) H'
theorem qgE {H:Hp}{bs:List Addr}{ls:List (List Int)}(tb:qbh H bs ls){i:Nat}{x:V}(h:(bs.map V.ref)[i]?=some x):∃ b n,x = .ref b/\ls[i]?=some n/\H b=some (.tup (iv n)):=by
 rw [List.getElem?_map,Option.map_eq_some_iff] at h
 obtain ⟨b,hb,rfl⟩:=h
 obtain ⟨n,hk,hbk⟩:=qan tb hb
 exact ⟨b,n,rfl,hk,hbk⟩
theorem qgq {H:Hp}:∀ {bs cs:List Addr} {ls ms:List (List Int)},qbh H bs ls->qbh H cs ms->List.zipWith (fun x y=>V.bl (lexI (qgf H x) (qgf H y))) (bs.map V.ref) (cs.map V.ref)=(List.zipWith lexI ls ms).map V.bl
 | _,_,_,_,.nil,_=>by simp
 | _,_,_,_,.cons _ _,.nil=>by simp
 | _,_,_,_,.cons h t,.cons g u=>by
  simp only [List.map_cons,List.zipWith_cons_cons]
  rw [qdW h,qdW g,qgq t u]
theorem qgD {H:Hp}{bs:List Addr}{ls:List (List Int)}(h:qbh H bs ls):qbh H bs.tail ls.tail:=by cases h with | nil=>exact .nil | cons _ t=>exact t
theorem qhb (T:Txt2 mg)(F:FunAt K mg "are_rising" ["things"] s_are_rising):Cal P w K mg base "are_rising" ["things"] 1 qfw:=by
 have S:=qcc
 refine F.cal qcc (fun vs H Q E h=>?_) (fun f cdv A outer s H vs Q E hr h=>?_)
 ·obtain ⟨l,bs,ls,rfl,_⟩:=h; rfl
 obtain ⟨l,bs,ls,rfl,hl,tb,few,k⟩:=h
 have bl:=Paired.length tb
 have hu:=hr.units0
 refine ⟨_,(@pO _ _ _ (@qag _ _ _ _ (@qab _ _ _ _ _ _ _ _ _ (qbE ⋯) ⋯ (by exact T.z_all) (by exact qdm) (@pC _ _ _ _ _ (@qbr _ _ _ _ _ _ _ _ _ _ _ _ _ ⋯ (by exact (fun _ _ h=>h)) (by decide +kernel) ⋯ (by decide +kernel) (by exact qbZ rfl) (by exact Sees.frees ["ahead", "behind"] [] qb0) (@qg1 true true _ _ _ _ _ _ _ _ _ ⋯ (by exact T.z_zip) (@pC _ _ _ _ _ (pv 0) (@pC _ _ _ _ _ (@qas _ _ _ _ _ _ _ _ _ _ qaR (pv 0) (@qaz _ _ _ pI) qaC) pN ⋯) ⋯) ⋯ ⋯) (fun _ _ _ _ _ => @qcr _ _ _ _ _ (2) ⋯ (@qai _ _ _ _ _ (@pG _ _ (0) _ (by exact (show (["ahead", "behind"]:List Str).Nodup by decide +kernel)) ⋯ ⋯ ⋯) (@qai _ _ _ _ _ (@pG _ _ (1) _ (by exact (show (["ahead", "behind"]:List Str).Nodup by decide +kernel)) ⋯ ⋯ ⋯) qaX ⋯) ⋯) ⋯ ⋯) (fun _ _ _ _ _=>qba) (fun _ _ _ _ _=>(@qa4 _ _ _ _ _ _ _ _ (qj3 hu) (pv 0) (pv 1) (by exact (qal _)))) ⋯) pN ⋯) ⋯ ⋯ ⋯ ⋯))),?_⟩
 refine ⟨_,rfl,_,rfl,_,rfl,l,_,rfl,SqL.of hl,fun c hc=>?_⟩
 have e1:cutV (bs.map V.ref) (some 1) none=bs.tail.map V.ref:=by
  cases bs with
  | nil=>rfl
  | cons b0 bs0 =>
   have:=qbT (xs:=(b0 :: bs0).map V.ref) (k:=1) (by simp)
   rw [show ((1:Nat):Int)=1 from rfl] at this
   rw [this,List.map_cons,List.drop_one]; rfl
 rw [e1]
 have s_H1:=sN hc (.lst (bs.tail.map V.ref))
 have g_c:upd H c (.lst (bs.tail.map V.ref)) c=some (.lst (bs.tail.map V.ref)):=uS
 generalize upd H c (.lst (bs.tail.map V.ref))=H1 at s_H1 g_c ⊢
 have tbt:=qgD tb
 refine ⟨l,c,rfl,⟨_,SqL.of (s_H1 _ _ hl)⟩,⟨_,SqL.of g_c⟩,qeF (b1:=true) (b2:=true) (fs:=[]) (fun x y=>V.bl (lexI (qgf H x) (qgf H y))) (s_H1 _ _ hl) g_c (by simp; omega) ?_ fun r H3 s3 hr3=>?_⟩
 ·intro i x y hx hy H4 Q' s4 hq
  obtain ⟨b,n,rfl,_,hb⟩:=qgE tb hx
  obtain ⟨d,m,rfl,_,hd⟩:=qgE tbt hy
  refine ⟨_,rfl,_,rfl,b,d,n,m,rfl,rfl,s4 _ _ (s_H1 _ _ hb),s4 _ _ (s_H1 _ _ hd),?_⟩
  have:=hq H4 (Same.refl _)
  rw [qdW hb,qdW hd] at this
  exact this
 rw [qgq tb tbt] at hr3
 refine ⟨r,_,rfl,hr3,?_⟩
 exact k H3 (s_H1.trans s3)
end
theorem qjS {d:PyData}(h:posD d=true):0 < qD d:=by
 obtain ⟨a,b,rfl,b1,g1,a0⟩:=qc5 h
 show 0 < if 1≤b then Rat.divInt a b else 0
 rw [if_pos b1,Rat.lt_iff,(red b1 g1).1]
 show (0:Int) * _ < a * 1
 omega
theorem qjd {H:Hp}{v:V}{d:PyData}(hd:qaP H v d)(h:posD d=true):ShAt H v (qD d):=by
 obtain ⟨a,b,rfl,b1,g1,a0⟩:=qc5 h
 obtain ⟨p,rfl,hp⟩:=data2 hd
 obtain ⟨e1,e2⟩:=red b1 g1
 have eq:qD (.tuple [.int a,.int b])=Rat.divInt a b:=if_pos b1
 exact ⟨p,rfl,by rw [eq,e1,e2]; exact hp⟩
theorem qdj {H:Hp}:∀ {xs:List V} {ds:List PyData},qam H xs ds->ds.all posD=true->Shs H xs (ds.map qD)
 | _,_,.nil,_ => .nil
 | _,_,.cons (d:=d) (ds:=ds) hx r,h=>by
  have h':posD d=true/\ds.all posD=true:=by simpa using h
  exact .cons (qjd hx h'.1) (qdj r h'.2)
theorem sh1 {H:Hp}{z:Addr}(h:H z=some (.tup [.int 1,.int 1])):ShAt H (.ref z) 1:=⟨z,rfl,h⟩
section
variable {P:Program}{w:World}{K:PySem.W.Frag}{mg:Str->Option Value}{base:Heap}
def qi6:Sp:=fun vs H Q _=>∃ (l:Addr) (xs:List V) (ds:List PyData),vs=[.ref l]/\H l=some (.lst xs)/\qam H xs ds/\ds.length≤300/\(∀ q∈ds.map qD,SB 110 q)/\(∀ i,SB 2000 (((ds.map qD).take i).foldl (· + ·) 0))/\∀ H',Same H H'->Q (.bl (ds.all posD && decide ((ds.map qD).foldl (· + ·) 0=1))) H'
theorem qhe (T:Txt2 mg)(C_is_share:Cal P w K mg base "is_share" ["thing"] 2 qdL)(C_total:Cal P w K mg base "total" ["some"] 3 qgL)(F:FunAt K mg "are_one" ["things"] s_are_one):Cal P w K mg base "are_one" ["things"] 4 qi6:=by
 have S:=qdw
 refine F.cal qdw (fun vs H Q E h=>?_) (fun f cdv A outer s H vs Q E hr h=>?_)
 ·obtain ⟨l,xs,ds,rfl,_⟩:=h; rfl
 obtain ⟨l,xs,ds,rfl,hl,dl,few,sb,fit,k⟩:=h
 have hu:=hr.units0
 have dll:=dl.length
 refine ⟨_,(@pK _ _ _ _ _ (@qa8 _ _ _ _ _ _ _ _ (@qa1 _ _ _ _ (@qaM _ _ _ (@qab _ _ _ _ _ _ _ _ _ (qbE ⋯) ⋯ (by exact T.z_all) (by exact qdm) (@pC _ _ _ _ _ (@qdU _ _ _ _ _ _ _ _ _ _ _ (["part"]) (fun _=>[none]) ⋯ (by exact (fun _ _ h=>h)) (by decide +kernel) ⋯ (by decide +kernel) (by decide +kernel) (by exact Sees.none1) (@qbe _ _ _ _ (pv 0)) (fun _ _ _ _ _ => @pG _ _ (0) _ (by exact (show (["part"]:List Str).Nodup by decide +kernel)) ⋯ ⋯ ⋯) (fun _ _ _ _ _=>qba) (fun _ _ _ _ _=>(@qce _ _ _ _ _ _ _ (@cc _ _ _ _ _ _ _ _ _ _ (by exact C_is_share) (by exact (hr.mono (by decide))) (@pC _ _ _ _ _ (pv 0) pN ⋯) ⋯ ⋯ ⋯ ⋯) (@qcH _ _ _ _ _ (@qa4 _ _ _ _ _ _ _ _ qeq (@qaA _ _ _ _ _ _ _ qht (pv 0) pI (by exact (fun _ _=>rfl))) pI (by exact (qal _)))))) ⋯) pN ⋯) ⋯ ⋯ ⋯ ⋯) ⋯)) (@pO _ _ _ (@qag _ _ _ _ qbi)) qau) (@pO _ _ _ (@qag _ _ _ _ (@qa4 _ _ _ _ _ _ _ _ (qj6 hu) (@cc _ _ _ _ _ _ _ _ _ _ (by exact C_total) (by exact (hr.mono (by decide))) (@pC _ _ _ _ _ (pv 0) pN ⋯) ⋯ ⋯ ⋯ ⋯) (@qar _ _ _ _ _ (@pC _ _ _ _ _ pI (@pC _ _ _ _ _ pI pN ⋯) ⋯)) (by exact (qal _)))))),?_⟩
 refine ⟨_,rfl,l,rfl,⟨_,SqL.of hl⟩,qb2 (qaT (xs:=xs)) (fun p i ys σ' H'=>Same H H'/\(∃ o1,σ'=[o1])/\ys=(ds.take i).map fun d=>V.bl (posD d)) (by omega) ?_ ?_ ?_ ?_⟩
 ·exact fun p hp=>⟨sN hp _,⟨_,rfl⟩,rfl⟩
 ·rintro p i ys σ' H' hp ⟨s',_⟩
  exact s' _ _ hl
 ·rintro p i ys σ' H' x H'' hp hi hl' ⟨s',⟨o1,rfl⟩,rfl⟩ hp'' ⟨rfl,hx⟩ Q1 Q2 h1 h2
  obtain ⟨d,hdi,hvd⟩:=qam.get' dl hx
  have fin:∀ b:Bool,b=posD d->Q1 (.bl b) _ _:=fun b hb=>h1 _ [some x] H'' hp'' ⟨qaL hp s' _,⟨_,rfl⟩,by rw [take_snoc hdi,List.map_append,hb]; rfl⟩
  refine gN_ (tT_ (iteT ⟨_,rfl,x,d,rfl,hvd.same s',_,rfl,?_⟩))
  refine ite2 (fun c2=>?_) (fun c2=>?_)
  ·obtain ⟨a,b,rfl,b1,g1⟩:=qfa c2
   obtain ⟨pa,rfl,hpa⟩:=data2 (hvd.same s')
   refine ⟨_,rfl,pa,_,_,_,rfl,rfl,hpa,rfl,_,_,rfl,rfl,fin _ ?_⟩
   simp [posD,b1,g1]
  ·exact fin false (qfE (by simpa using c2)).symm
 rintro p ys σ' H3 hp ⟨s3,_,rfl⟩ hp' hl'
 rw [dll,List.take_length] at hp'
 have eb:(ds.map fun d=>V.bl (posD d))=(ds.map posD).map V.bl:=by rw [List.map_map]; rfl
 rw [eb] at hp'
 refine ⟨p,_,rfl,hp',_,rfl,?_⟩
 have ea:(ds.map posD).all id=ds.all posD:=by rw [List.all_map]; rfl
 rw [ea]
 refine ite2 (fun c2=>?_) (fun c2=>?_)
 ·have c3:ds.all posD=false:=by simpa using c2
  have:=k H3 s3
  rw [c3] at this
  exact this
 have c3:ds.all posD=true:=by simpa using c2
 have sh:=qdj dl c3
 refine ⟨_,rfl,l,xs,ds.map qD,rfl,s3 _ _ hl,sh.same s3,fun q hm=>(sb q hm).mono (by decide),fun i=>(fit i).mono (by decide),fun v3 H4 s4 h4=>?_⟩
 refine ⟨lz 2 rfl,fun z hz=>?_⟩
 have s_H5:=sN hz (.tup [.int 1,.int 1])
 have g_z:upd H4 z (.tup [.int 1,.int 1]) z=some (.tup [.int 1,.int 1]):=uS
 generalize upd H4 z (.tup [.int 1,.int 1])=H5 at s_H5 g_z ⊢
 refine ⟨_,1,h4.same s_H5,sh1 g_z,?_⟩
 have:=k _ (s3.trans (s4.trans s_H5))
 rw [c3,Bool.true_and] at this
 exact this
abbrev Rws3 (H:Hp)(xs:List V)(ps:List (Addr × V)):Prop:=Paired (fun x (p:Addr × V)=>∃ a,x = .ref a/\H a=some (.tup [.ref p.1,p.2])) xs ps
theorem qhl {H:Hp}{v:V}{d:PyData}(hd:qaP H v d)(h:qaD d=true):∃ b,v = .ref b/\H b=some (.tup (iv (qhg d))):=by
 cases hd with
 | @tup a xs ds hp hl =>
  have h3:ds.all nnD=true:=by
   simp only [qaD,Bool.and_eq_true] at h
   exact h.1.2
  exact ⟨a,rfl,by rw [hp,qfo hl h3]; rfl⟩
 | _=>cases h
theorem qgA {H:Hp}{v:V}{a b:PyData}(h:qaP H v (.tuple [a,b])):∃ p x y,v = .ref p/\H p=some (.tup [x,y])/\qaP H x a/\qaP H y b:=by
 cases h with
 | tup hp hl =>
  cases hl with
  | cons h1 r1=>cases r1 with
   | cons h2 r2=>cases r2 with
    | nil=>exact ⟨_,_,_,rfl,hp,h1,h2⟩
theorem qjG {H:Hp}:∀ {xs:List V} {ds:List PyData},qam H xs ds->ds.all rowD=true->(ds.all fun d=>qaD (fstD d))=true->∃ ps,Rws3 H xs ps/\qbh H (ps.map (·.1)) (lsD ds)/\qam H (ps.map (·.2)) (ds.map sndD)
 | _,_,.nil,_,_=>⟨[],.nil,.nil,.nil⟩
 | _,_,.cons (d:=d) (ds:=ds) hx r,h1,h2=>by
  have h1':rowD d=true/\ds.all rowD=true:=by simpa using h1
  have h2':qaD (fstD d)=true/\(ds.all fun d=>qaD (fstD d))=true:=by simpa using h2
  obtain ⟨ps,r1,r2,r3⟩:=qjG r h1'.2 h2'.2
  obtain ⟨a,b,rfl⟩:=qfA h1'.1
  obtain ⟨p,x,y,rfl,hp,dx,dy⟩:=qgA hx
  obtain ⟨c,rfl,hc⟩:=qhl dx h2'.1
  exact ⟨(c,y) :: ps,.cons ⟨p,rfl,hp⟩ r1,.cons hc r2,.cons dy r3⟩
def qb9:Sp:=fun vs H Q _=>∃ v d,vs=[v]/\qaP H v d/\(∀ ds,d = .list ds->FitV ds)/\∀ H',Same H H'->Q (.bl (qaE d)) H'
theorem qe5 (T:Txt2 mg)(C_is_load:Cal P w K mg base "is_load" ["thing"] 2 qdM)(C_are_alike:Cal P w K mg base "are_alike" ["loads"] 1 qgN)(C_are_rising:Cal P w K mg base "are_rising" ["things"] 1 qfw)(C_are_one:Cal P w K mg base "are_one" ["things"] 4 qi6)
  (F:FunAt K mg "is_spread" ["thing"] s_is_spread):Cal P w K mg base "is_spread" ["thing"] 5 qb9:=by
 have S:=qcE
 refine F.cal qcE (fun vs H Q E h=>?_) (fun f cdv A outer s H vs Q E hr h=>?_)
 ·obtain ⟨v,d,rfl,_⟩:=h; rfl
 obtain ⟨v,d,rfl,hd,fit,k⟩:=h
 refine ⟨_,(@pK _ _ _ _ _ (@qa8 _ _ _ _ _ _ _ _ (@PW.pt _ _ _ (@qbq _ _ _ _ _ _ _ (@qa1 _ _ _ _ (@qaM _ _ _ (@qab _ _ _ _ _ _ _ _ _ qaH ⋯ (by exact T.z_isinstance) (by exact qae) (@pC _ _ _ _ _ (pv 0) (@pC _ _ _ _ _ (@qaU _ _ (.ty "list") _ _ ⋯ (by exact T.z_list) (by exact qdl) ⋯ ⋯ ⋯) pN ⋯) ⋯) ⋯ ⋯ ⋯ ⋯) ⋯)) (@qbm _ _ _ _ (@qa1 _ _ _ _ (@qaM _ _ _ (@qab _ _ _ _ _ _ _ _ _ (qbE ⋯) ⋯ (by exact T.z_all) (by exact qdm) (@pC _ _ _ _ _ (@qdU _ _ _ _ _ _ _ _ _ _ _ (["row"]) (fun _=>[none]) ⋯ (by exact (fun _ _ h=>h)) (by decide +kernel) ⋯ (by decide +kernel) (by decide +kernel) (by exact Sees.none1) (@qbe _ _ _ _ (pv 0)) (fun _ _ _ _ _ => @pG _ _ (0) _ (by exact (show (["row"]:List Str).Nodup by decide +kernel)) ⋯ ⋯ ⋯) (fun _ _ _ _ _=>qba) (fun _ _ _ _ _=>(@qce _ _ _ _ _ _ _ (@qab _ _ _ _ _ _ _ _ _ (qgk K ⋯) ⋯ (by exact T.z_isinstance) (by exact qae) (@pC _ _ _ _ _ (pv 0) (@pC _ _ _ _ _ (@qaU _ _ (.ty "tuple") _ _ ⋯ (by exact T.z_tuple) (by exact qbp) ⋯ ⋯ ⋯) pN ⋯) ⋯) ⋯ ⋯ ⋯ ⋯) (@qcH _ _ _ _ _ (@qa4 _ _ _ _ _ _ _ _ qdq (@qab _ _ _ _ _ _ _ _ _ (qcy K ⋯) ⋯ (by exact T.z_len) (by exact qbd) (@pC _ _ _ _ _ (pv 0) pN ⋯) ⋯ ⋯ ⋯ ⋯) pI (by exact (qal _)))))) ⋯) pN ⋯) ⋯ ⋯ ⋯ ⋯) ⋯))))) (@pO _ _ _ (@qag _ _ _ _ qbi)) qau) (@pK _ _ _ _ _ (@qa8 _ _ _ _ _ _ _ _ (@qa1 _ _ _ _ (@qaM _ _ _ (@qab _ _ _ _ _ _ _ _ _ (qbE ⋯) ⋯ (by exact T.z_all) (by exact qdm) (@pC _ _ _ _ _ (@qbr _ _ _ _ _ _ _ _ _ _ _ _ _ ⋯ (by exact (fun _ _ h=>h)) (by decide +kernel) ⋯ (by decide +kernel) (by exact qbZ rfl) (by exact Sees.frees ["load", "part"] [] qb0) (@qbe _ _ _ _ (pv 0)) (fun _ _ _ _ _ => @qcr _ _ _ _ _ (2) ⋯ (@qai _ _ _ _ _ (@pG _ _ (0) _ (by exact (show (["load", "part"]:List Str).Nodup by decide +kernel)) ⋯ ⋯ ⋯) (@qai _ _ _ _ _ (@pG _ _ (1) _ (by exact (show (["load", "part"]:List Str).Nodup by decide +kernel)) ⋯ ⋯ ⋯) qaX ⋯) ⋯) ⋯ ⋯) (fun _ _ _ _ _=>qba) (fun _ _ _ _ _=>(@cc _ _ _ _ _ _ _ _ _ _ (by exact C_is_load) (by exact (hr.mono (by decide))) (@pC _ _ _ _ _ (pv 0) pN ⋯) ⋯ ⋯ ⋯ ⋯)) ⋯) pN ⋯) ⋯ ⋯ ⋯ ⋯) ⋯)) (@pO _ _ _ (@qag _ _ _ _ qbi)) qau) (@pK _ _ _ _ _ (@qjQ _ _ _ _ _ _ _ _ _ _ _ _ _ _ _ (1) _ (by exact S.nd) ⋯ ⋯ ⋯ (by exact (fun _ _ h=>h)) (by decide +kernel) ⋯ (by decide +kernel) (by exact qbZ rfl) (by exact Sees.frees ["load", "part"] [] qb0) (@qbe _ _ _ _ (pv 0)) (fun _ _ _ _ _ => @qcr _ _ _ _ _ (2) ⋯ (@qai _ _ _ _ _ (@pG _ _ (0) _ (by exact (show (["load", "part"]:List Str).Nodup by decide +kernel)) ⋯ ⋯ ⋯) (@qai _ _ _ _ _ (@pG _ _ (1) _ (by exact (show (["load", "part"]:List Str).Nodup by decide +kernel)) ⋯ ⋯ ⋯) qaX ⋯) ⋯) ⋯ ⋯) (fun _ _ _ _ _=>qba) (fun _ _ _ _ _=>(pv 0)) ⋯ ⋯ ⋯) (@pO _ _ _ (@qag _ _ _ _ (@qce _ _ _ _ _ _ _ (@cc _ _ _ _ _ _ _ _ _ _ (by exact C_are_alike) (by exact (hr.mono (by decide))) (@pC _ _ _ _ _ (pv 1) pN ⋯) ⋯ ⋯ ⋯ ⋯) (@qce _ _ _ _ _ _ _ (@cc _ _ _ _ _ _ _ _ _ _ (by exact C_are_rising) (by exact (hr.mono (by decide))) (@pC _ _ _ _ _ (pv 1) pN ⋯) ⋯ ⋯ ⋯ ⋯) (@qcH _ _ _ _ _ (@cc _ _ _ _ _ _ _ _ _ _ (by exact C_are_one) (by exact (hr.mono (by decide))) (@pC _ _ _ _ _ (@qbr _ _ _ _ _ _ _ _ _ _ _ _ _ ⋯ (by exact (fun _ _ h=>h)) (by decide +kernel) ⋯ (by decide +kernel) (by exact qbZ rfl) (by exact Sees.frees ["load", "part"] [] qb0) (@qbe _ _ _ _ (pv 0)) (fun _ _ _ _ _ => @qcr _ _ _ _ _ (2) ⋯ (@qai _ _ _ _ _ (@pG _ _ (0) _ (by exact (show (["load", "part"]:List Str).Nodup by decide +kernel)) ⋯ ⋯ ⋯) (@qai _ _ _ _ _ (@pG _ _ (1) _ (by exact (show (["load", "part"]:List Str).Nodup by decide +kernel)) ⋯ ⋯ ⋯) qaX ⋯) ⋯) ⋯ ⋯) (fun _ _ _ _ _=>qba) (fun _ _ _ _ _=>(pv 1)) ⋯) pN ⋯) ⋯ ⋯ ⋯ ⋯))))))))),?_⟩
 obtain ⟨t,ty,_,_,_,e4⟩:=tyOf (K:=K) hd
 refine ⟨_,rfl,_,_,_,_,rfl,ty,e4,_,rfl,?_⟩
 clear ty
 cases hd with
 | @lst p xs ds hp hl =>
  have ft:=fit ds rfl
  have hll:=hl.length
  have few:=ft.len
  refine iteF ?_
  refine ⟨_,rfl,p,rfl,⟨_,SqL.of hp⟩,qb2 (qaT (xs:=xs)) (fun q i ys σ' H'=>Same H H'/\(∃ o1,σ'=[o1])/\ys=(ds.take i).map fun d=>V.bl (rowD d)) (by omega) ?_ ?_ ?_ ?_⟩
  ·exact fun p hp=>⟨sN hp _,⟨_,rfl⟩,rfl⟩
  ·rintro q i ys σ' H' hq ⟨s',_⟩
   exact s' _ _ hp
  ·rintro q i ys σ' H' x H'' hq hi hl' ⟨s',⟨o1,rfl⟩,rfl⟩ hp'' ⟨rfl,hx⟩ Q1 Q2 h1 h2
   obtain ⟨d,hdi,hvd⟩:=qam.get' hl hx
   have fin:∀ b:Bool,b=rowD d->Q1 (.bl b) _ _:=fun b hb=>h1 _ [some x] H'' hp'' ⟨qaL hq s' _,⟨_,rfl⟩,by rw [take_snoc hdi,List.map_append,hb]; rfl⟩
   have hv':=hvd.same s'
   obtain ⟨t',ty',_,_,e3,_⟩:=tyOf (K:=K) hv'
   refine gN_ (tT_ (iteT ⟨_,rfl,_,_,_,_,rfl,ty',e3,_,rfl,?_⟩))
   clear ty'
   cases hv' with
   | @tup b ys es hb he =>
    refine iteT ⟨_,rfl,b,_,rfl,.inr (SqT.of hb),rfl,fin _ ?_⟩
    rw [qgV,he.length]
    exact decide_eq_decide.mpr ⟨fun e=>by have:=V.int.inj e; omega,fun e=>by rw [e]; rfl⟩
   | _=>exact iteF (fin false rfl)
  rintro q ys σ' H2 hq ⟨s2,_,rfl⟩ hp' hl'
  rw [hll,List.take_length] at hp'
  have eb:(ds.map fun d=>V.bl (rowD d))=(ds.map rowD).map V.bl:=by rw [List.map_map]; rfl
  rw [eb] at hp'
  refine ⟨q,_,rfl,hp',_,rfl,?_⟩
  have ea:(ds.map rowD).all id=ds.all rowD:=by rw [List.all_map]; rfl
  rw [ea]
  refine ite2 (fun c2=>?_) (fun c2=>?_)
  ·have c3:ds.all rowD=false:=by simpa using c2
   have:=k H2 s2
   simp only [qaE,c3,Bool.false_and] at this
   exact this
  have c3:ds.all rowD=true:=by simpa using c2
  clear hp' c2 ea eb
  refine ⟨_,rfl,p,rfl,⟨_,SqL.of (s2 _ _ hp)⟩,qb2 (qaT (xs:=xs)) (fun q i ys σ' H'=>Same H2 H'/\(∃ o1 o2,σ'=[o1,o2])/\ys=(ds.take i).map fun d=>V.bl (qaD (fstD d))) (by omega) ?_ ?_ ?_ ?_⟩
  ·exact fun p hp=>⟨sN hp _,⟨_,_,rfl⟩,rfl⟩
  ·rintro q i ys σ' H' hq ⟨s',_⟩
   exact s' _ _ (s2 _ _ hp)
  ·rintro q i ys σ' H' x H'' hq hi hl' ⟨s',⟨o1,o2,rfl⟩,rfl⟩ hp'' ⟨rfl,hx⟩ Q1 Q2 h1 h2
   obtain ⟨d,hdi,hvd⟩:=qam.get' hl hx
   have hdm:=List.mem_of_getElem? hdi
   obtain ⟨da,db,rfl⟩:=qfA (List.all_eq_true.mp c3 d hdm)
   obtain ⟨a1,x1,y1,rfl,ha1,dx,dy⟩:=qgA ((hvd.same s2).same s')
   refine ⟨a1,_,rfl,ha1,rfl,_,_,rfl,_,_,rfl,rfl,tT_ (iteT ⟨_,rfl,x1,da,rfl,dx,fun fs e=>ft.tup _ hdm fs e,fun H5 s5=>?_⟩)⟩
   have hp5:=s5 _ _ hp''
   exact h1 _ _ _ hp5 ⟨qaL hq (s'.trans s5) _,⟨_,_,rfl⟩,by rw [take_snoc hdi,List.map_append]; rfl⟩
  rintro q ys σ' H3 hq ⟨s3,_,rfl⟩ hp' hl'
  rw [hll,List.take_length] at hp'
  have eb:(ds.map fun d=>V.bl (qaD (fstD d)))=(ds.map fun d=>qaD (fstD d)).map V.bl:=by rw [List.map_map]; rfl
  rw [eb] at hp'
  refine ⟨q,_,rfl,hp',_,rfl,?_⟩
  have ea:(ds.map fun d=>qaD (fstD d)).all id=ds.all fun d=>qaD (fstD d):=by rw [List.all_map]; rfl
  rw [ea]
  have s23:=s2.trans s3
  refine ite2 (fun c2=>?_) (fun c2=>?_)
  ·have c4:(ds.all fun d=>qaD (fstD d))=false:=by simpa using c2
   have:=k H3 s23
   simp only [qaE,c3,c4,Bool.true_and,Bool.false_and] at this
   exact this
  have c4:(ds.all fun d=>qaD (fstD d))=true:=by simpa using c2
  clear hp' c2 ea eb
  obtain ⟨ps,r1,r2,r3⟩:=qjG hl c3 c4
  have pl:=Paired.length r1
  have ll:(lsD ds).length=ds.length:=by simp [lsD]
  refine ⟨_,rfl,p,rfl,⟨_,SqL.of (s23 _ _ hp)⟩,qb2 (qaT (xs:=xs)) (fun q i ys σ' H'=>Same H3 H'/\(∃ o1 o2,σ'=[o1,o2])/\ys=(ps.take i).map fun p=>V.ref p.1) (by omega) ?_ ?_ ?_ ?_⟩
  ·exact fun p hp=>⟨sN hp _,⟨_,_,rfl⟩,rfl⟩
  ·rintro q i ys σ' H' hq ⟨s',_⟩
   exact s' _ _ (s23 _ _ hp)
  ·rintro q i ys σ' H' x H'' hq hi hl' ⟨s',⟨o1,o2,rfl⟩,rfl⟩ hp'' ⟨rfl,hx⟩ Q1 Q2 h1 h2
   obtain ⟨pp,hpi,a1,rfl,ha1⟩:=qan r1 hx
   refine ⟨a1,_,rfl,s' _ _ (s23 _ _ ha1),rfl,_,_,rfl,_,_,rfl,rfl,tT_ (iteT ⟨_,rfl,?_⟩)⟩
   exact h1 _ _ _ hp'' ⟨qaL hq s' _,⟨_,_,rfl⟩,by rw [take_snoc hpi,List.map_append]; rfl⟩
  rintro q ys σ' H4 hq ⟨s4,_,rfl⟩ hp' hl'
  rw [pl,List.take_length] at hp'
  have s24:=s23.trans s4
  have hp4:H4 q=some (.lst ((ps.map (·.1)).map V.ref)):=by rw [hp',List.map_map]; rfl
  have t4:qbh H4 (ps.map (·.1)) (lsD ds):=Paired.imp' (fun b k e=>s24 _ _ e) r2
  refine ⟨_,rfl,q,_,lsD ds,rfl,hp4,t4,by omega,fun H5 s5=>⟨_,rfl,ite2 (fun c5=>?_) (fun c5=>?_)⟩⟩
  case refine_2 =>
   have:=k H5 (s24.trans s5)
   simp only [qaE,c3,c4,show qdo (lsD ds)=false by simpa using c5,Bool.true_and,Bool.false_and] at this
   exact this
  refine ⟨_,rfl,q,_,lsD ds,rfl,s5 _ _ hp4,Paired.imp' (fun b k e=>s5 _ _ e) t4,by omega,fun H6 s6=>⟨_,rfl,ite2 (fun c6=>?_) (fun c6=>?_)⟩⟩
  case refine_2 =>
   have:=k H6 (s24.trans (s5.trans s6))
   simp only [qaE,c3,c4,c5,show qej (lsD ds)=false by simpa using c6,Bool.true_and,Bool.false_and] at this
   exact this
  have s26:=s24.trans (s5.trans s6)
  refine ⟨_,rfl,p,rfl,⟨_,SqL.of (s26 _ _ hp)⟩,qb2 (qaT (xs:=xs)) (fun q i ys σ' H'=>Same H6 H'/\(∃ o1 o2,σ'=[o1,o2])/\ys=(ps.take i).map fun p=>p.2) (by omega) ?_ ?_ ?_ ?_⟩
  ·exact fun p hp=>⟨sN hp _,⟨_,_,rfl⟩,rfl⟩
  ·rintro q i ys σ' H' hq ⟨s',_⟩
   exact s' _ _ (s26 _ _ hp)
  ·rintro q i ys σ' H' x H'' hq hi hl' ⟨s',⟨o1,o2,rfl⟩,rfl⟩ hp'' ⟨rfl,hx⟩ Q1 Q2 h1 h2
   obtain ⟨pp,hpi,a1,rfl,ha1⟩:=qan r1 hx
   refine ⟨a1,_,rfl,s' _ _ (s26 _ _ ha1),rfl,_,_,rfl,_,_,rfl,rfl,tT_ (iteT ⟨_,rfl,?_⟩)⟩
   exact h1 _ _ _ hp'' ⟨qaL hq s' _,⟨_,_,rfl⟩,by rw [take_snoc hpi,List.map_append]; rfl⟩
  rintro q7 ys σ' H7 hq7 ⟨s7,_,rfl⟩ hp7 hl7
  rw [pl,List.take_length] at hp7
  have eq:(ds.map sndD).map qD=qsD ds:=by rw [List.map_map]; rfl
  refine ⟨q7,_,ds.map sndD,rfl,hp7,qam.same (s26.trans s7) r3,by rw [List.length_map]; omega,by rw [eq]; exact ft.sb,by rw [eq]; exact ft.part,fun H8 s8=>?_⟩
  have:=k H8 (s26.trans (s7.trans s8))
  have e9:((ds.map sndD).all posD && decide (((ds.map sndD).map qD).foldl (· + ·) 0=1))=qaE (.list ds):=by
   rw [eq,List.all_map]
   simp only [qaE,c3,c4,c5,c6,Bool.true_and]
   rfl
  rw [e9]
  exact this
 | _=>exact iteT (k H (Same.refl _))
end
section
variable {P:Program}{w:World}{K:PySem.W.Frag}{mg:Str->Option Value}{base:Heap}
theorem qgc (T:Txt2 mg)(F:FunAt K mg "_law_is_load" ["_law_thing"] s_l_is_load):Cal P w K mg base "_law_is_load" ["_law_thing"] 2 qdM:=by
 have S:=qcB
 refine F.cal qcB (fun vs H Q E h=>?_) (fun f cdv A outer s H vs Q E hr h=>?_)
 ·obtain ⟨a,d,rfl,_⟩:=h; rfl
 obtain ⟨a,d,rfl,hd,hlen,k⟩:=h
 refine ⟨_,(@pK _ _ _ _ _ (@qa8 _ _ _ _ _ _ _ _ (@PW.pt _ _ _ (@qbq _ _ _ _ _ _ _ (@qa1 _ _ _ _ (@qaM _ _ _ (@qab _ _ _ _ _ _ _ _ _ qaH ⋯ (by exact T.z_isinstance) (by exact qae) (@pC _ _ _ _ _ (pv 0) (@pC _ _ _ _ _ (@qaU _ _ (.ty "tuple") _ _ ⋯ (by exact T.z_tuple) (by exact qbp) ⋯ ⋯ ⋯) pN ⋯) ⋯) ⋯ ⋯ ⋯ ⋯) ⋯)) (@qbm _ _ _ _ (@qa1 _ _ _ _ (@qir _ _ _ _ _ _ _ _ _ _ _ _ qep qep pI (@qab _ _ _ _ _ _ _ _ _ qaj ⋯ (by exact T.z_len) (by exact qbd) (@pC _ _ _ _ _ (pv 0) pN ⋯) ⋯ ⋯ ⋯ ⋯) pI ⋯))))) (@pO _ _ _ (@qag _ _ _ _ qbi)) qau) (@pK _ _ _ _ _ (@qbK _ _ _ _ _ _ _ _ (by exact PassesOwn.never) ⋯ (@qfF false _ _ _ _ _ _ _ _ ⋯ (by exact T.z_enumerate) (@pC _ _ _ _ _ (pv 0) pN ⋯) ⋯) (@qbW _ _ _ _ _ _ ⋯ (@qai _ _ _ _ _ (@pG _ _ (1) _ (by exact S.nd) ⋯ ⋯ ⋯) (@qai _ _ _ _ _ (@pG _ _ (2) _ (by exact S.nd) ⋯ ⋯ ⋯) qaX ⋯) ⋯) ⋯ ⋯) (@pK _ _ _ _ _ (@qa8 _ _ _ _ _ _ _ _ (@PW.pt _ _ _ (@qbq _ _ _ _ _ _ _ (@qa1 _ _ _ _ (@qaM _ _ _ (@qab _ _ _ _ _ _ _ _ _ qaH ⋯ (by exact T.z_isinstance) (by exact qae) (@pC _ _ _ _ _ (pv 2) (@pC _ _ _ _ _ (@qaU _ _ (.ty "int") _ _ ⋯ (by exact T.z_int) (by exact qeL) ⋯ ⋯ ⋯) pN ⋯) ⋯) ⋯ ⋯ ⋯ ⋯) ⋯)) (@qbq _ _ _ _ _ _ _ (@qaM _ _ _ (@qab _ _ _ _ _ _ _ _ _ qaH ⋯ (by exact T.z_isinstance) (by exact qae) (@pC _ _ _ _ _ (pv 2) (@pC _ _ _ _ _ (@qaU _ _ (.ty "bool") _ _ ⋯ (by exact T.z_bool) (by exact qd6) ⋯ ⋯ ⋯) pN ⋯) ⋯) ⋯ ⋯ ⋯ ⋯) ⋯) (@qbm _ _ _ _ (@qaq _ _ _ _ _ _ _ _ qep (pv 2) pI (by exact (qal _))))))) (@pO _ _ _ (@qag _ _ _ _ qbi)) qau) (@pO _ _ _ (@qa8 _ _ _ _ _ _ _ _ (@PW.pt _ _ _ (@qfC _ _ _ _ _ _ _ (@qaq _ _ _ _ _ _ _ _ qeq (pv 1) pI (by exact (qal _))) (@qeZ _ _ _ _ (@qaq _ _ _ _ _ _ _ _ qeq (pv 2) (@qaA _ _ _ _ _ _ _ qay (pv 0) (@pP _ _ _ _ _ _ _ _ qen (pv 1) pI) (by exact (fun _ _=>rfl))) (by exact (qal _)))))) (@pO _ _ _ (@qag _ _ _ _ qbi)) qau))) ⋯) (@pO _ _ _ (@qag _ _ _ _ qbi)))),?_⟩
 obtain ⟨t,ty,_,_,e3,_⟩:=tyOf (K:=K) hd
 refine ⟨_,rfl,_,_,_,_,rfl,ty,e3,_,rfl,?_⟩
 clear ty
 cases hd with
 | @tup p xs ds hp hl =>
  have hlx:=hl.length
  have hl1000:=hlen ds rfl
  refine iteF ?_
  refine ⟨_,rfl,p,xs,rfl,.inr (SqT.of hp),_,_,rfl,rfl,_,rfl,?_⟩
  have badL:¬ (1≤ds.length/\ds.length≤6)->Q (.bl false) H:=fun h=>by
   have e:qaD (.tuple ds)=false:=by
    cases z:qaD (.tuple ds) with
    | false=>rfl
    | true =>
     simp only [qaD,Bool.and_eq_true,decide_eq_true_eq] at z
     exact absurd ⟨z.1.1.1,z.1.1.2⟩ h
   have:=k H (Same.refl _)
   rw [e] at this
   exact this
  refine ite2 (fun c=>?_) (fun c=>?_)
  rotate_left 1
  ·refine ⟨_,rfl,?_⟩
   refine iteT (badL fun h=>?_)
   have:¬ (0:Int) < ((xs.length:Nat):Int):=by simpa using c
   omega
  refine ⟨_,_,rfl,rfl,_,rfl,?_⟩
  refine ite2 (fun c1=>?_) (fun c1=>?_)
  ·refine badL fun h=>?_
   have:¬ ((xs.length:Nat):Int) < 7:=by simpa using c1
   omega
  have n1:1≤ds.length:=by
   have:(0:Int) < ((xs.length:Nat):Int):=of_decide_eq_true c
   omega
  have n2:ds.length≤6:=by
   have:((xs.length:Nat):Int) < 7:=by simpa using c1
   omega
  refine ⟨_,rfl,p,rfl,⟨_,SqT.of hp⟩,qhF (b:=false) (xs:=xs) (fun i σ H'=>Same H H'/\(∀ j,j < i->(∃ z,ds[j]?=some z/\nnD z=true)/\(0 < j->(ds.map numD).getD j 0≤(ds.map numD).getD (j - 1) 0))/\∃ o1 o2,σ=[some (.ref p),o1,o2]) ?_ ?_ ?_ ?_⟩
  ·exact ⟨Same.refl _,fun j hj=>absurd hj (by omega),_,_,rfl⟩
  ·rintro i σ H' _ ⟨s',_⟩
   exact SqT.of (s' _ _ hp)
  ·rintro i x q σ H' hx ⟨s',hall,o1,o2,rfl⟩ hq
   obtain ⟨d,hdi,hvd⟩:=qam.get' hl hx
   have hi:i < ds.length:=(List.getElem?_eq_some_iff.mp hdi).1
   have s2:=s'.trans (sN hq (.tup [.int i,x]))
   have bad:qaD (.tuple ds)=false->Q (.bl false) (upd H' q (.tup [.int i,x])):=fun e=>by
    have:=k _ s2
    rw [e] at this
    exact this
   have notall:nnD d=false->qaD (.tuple ds)=false:=fun e=>by
    have:ds.all nnD=false:=by
     cases q:ds.all nnD with
     | false=>rfl
     | true=>rw [List.all_eq_true] at q; rw [q d (List.mem_of_getElem? hdi)] at e; cases e
    simp only [qaD,this,Bool.and_false,Bool.false_and]
   refine ⟨q,_,rfl,SqT.of uS,rfl,_,_,rfl,_,_,rfl,rfl,?_⟩
   obtain ⟨t',ty',e1,e2,_,_⟩:=tyOf (K:=K) (hvd.same s2)
   refine ⟨_,rfl,_,_,_,_,rfl,ty',e1,_,rfl,?_⟩
   clear ty'
   cases hvd with
   | bl z=>exact iteF ⟨_,rfl,_,_,_,_,rfl,.bl z,rfl,_,rfl,iteT (bad (notall rfl))⟩
   | int z =>
    refine iteF ⟨_,rfl,_,_,_,_,rfl,.int z,rfl,_,rfl,iteF ⟨_,rfl,_,_,rfl,rfl,_,rfl,?_⟩⟩
    refine ite2 (fun c2=>?_) (fun c2=>?_)
    ·have:z < 0:=of_decide_eq_true c2
     exact bad (notall (by simp [nnD]; omega))
    have z0:0≤z:=by
     have:¬ z < 0:=by simpa using c2
     omega
    have ei:(ds.map numD).getD i 0=z:=by
     rw [List.getD_eq_getElem?_getD,List.getElem?_map,hdi]; rfl
    have go:(0 < i->z≤(ds.map numD).getD (i - 1) 0)->Same H (upd H' q (.tup [.int i,.int z]))/\(∀ j,j < i + 1->(∃ z,ds[j]?=some z/\nnD z=true)/\(0 < j->(ds.map numD).getD j 0≤(ds.map numD).getD (j - 1) 0))/\∃ o1 o2:Option V,[some (V.ref p),some (V.int i),some (V.int z)]=[some (V.ref p),o1,o2]:=fun hf=>by
     refine ⟨s2,fun j hj=>?_,_,_,rfl⟩
     by_cases hj':j=i
     ·subst hj'
      exact ⟨⟨_,hdi,by simp [nnD,z0]⟩,fun h=>by rw [ei]; exact hf h⟩
     ·exact hall j (by omega)
    refine ⟨_,rfl,_,_,rfl,rfl,_,rfl,?_⟩
    refine ite2 (fun c3=>?_) (fun c3=>?_)
    ·have i0:0 < i:=by
      have:(0:Int) < i:=of_decide_eq_true c3
      omega
     obtain ⟨⟨z',hz',hnn⟩,_⟩:=hall (i - 1) (by omega)
     obtain ⟨y,rfl,y0⟩:=qkg hnn
     have hxi:xs[i - 1]?=some (.int y):=by
      have hlt:i - 1 < xs.length:=by omega
      obtain ⟨d',h1,h2⟩:=qam.get' hl (List.getElem?_eq_getElem hlt)
      rw [hz'] at h1
      cases h1
      rw [List.getElem?_eq_getElem hlt]
      cases hq':xs[i - 1] with
      | int y'=>rw [hq'] at h2; cases h2; rfl
      | _=>rw [hq'] at h2; cases h2
     have ey:(ds.map numD).getD (i - 1) 0=y:=by
      rw [List.getD_eq_getElem?_getD,List.getElem?_map,hz']; rfl
     have eat:atI xs ((i:Int) - 1)=some (.int y):=by
      have:=qbO hxi
      rw [show (((i - 1:Nat):Nat):Int)=(i:Int) - 1 by omega] at this
      exact this
     refine ⟨_,rfl,_,rfl,_,rfl,_,_,rfl,rfl,p,_,_,_,rfl,rfl,SqT.of (s2 _ _ hp),eat,_,_,rfl,rfl,_,rfl,?_⟩
     refine ite2 (fun c4=>?_) (fun c4=>?_)
     ·have lt:y < z:=of_decide_eq_true c4
      refine bad ?_
      have:qeC (ds.map numD)=false:=by
       cases e:qeC (ds.map numD) with
       | false=>rfl
       | true =>
        have:=(qd2 _).mp e (i - 1) (by rw [List.length_map]; omega)
        rw [show i - 1 + 1=i by omega,ei,ey] at this
        omega
      simp only [qaD,this,Bool.and_false]
     ·have:¬ y < z:=by simpa using c4
      exact go fun _=>by rw [ey]; omega
    ·have:¬ (0:Int) < i:=by simpa using c3
     exact iteF (go fun h=>absurd h (by omega))
   | _=>exact iteT (bad (notall rfl))
  ·rintro σ H' ⟨s',hall,o1,o2,rfl⟩
   have e:qaD (.tuple ds)=true:=by
    have a1:ds.all nnD=true:=by
     rw [List.all_eq_true]
     intro d hd
     obtain ⟨j,hj,rfl⟩:=List.mem_iff_getElem.mp hd
     obtain ⟨⟨z,hz,hn⟩,_⟩:=hall j (by omega)
     rw [List.getElem?_eq_getElem hj] at hz
     cases hz
     exact hn
    have a2:qeC (ds.map numD)=true:=by
     rw [qd2]
     intro i hi
     rw [List.length_map] at hi
     exact (hall (i + 1) (by omega)).2 (by omega)
    simp only [qaD,a1,a2,n1,n2,decide_true,Bool.true_and]
   have:=k H' s'
   rw [e] at this
   exact this
 | _=>exact iteT (k H (Same.refl _))
theorem qdt:∀ (qs:List Rat) (a:Rat),(∀ q∈qs,0≤q)->0≤a->0≤qs.foldl (· + ·) a
 | [],a,_,h=>h
 | q :: qs,a,hq,h=>qdt qs (a + q) (fun r hr=>hq r (List.mem_cons_of_mem _ hr)) (by have:=hq q List.mem_cons_self; grind)
def qee:Sp:=fun vs H Q _=>∃ p xs qs,vs=[.ref p]/\H p=some (.lst xs)/\Shs H xs qs/\(∀ q∈qs,SB 110 q)/\(∀ q∈qs,0≤q)/\(∀ i,SB 2000 ((qs.take i).foldl (· + ·) 0))/\∀ H',Same H H'->Q (.bl (decide (qs.foldl (· + ·) 0=1))) H'
theorem qgd (C_l_lowest:Cal P w K mg base "_law_lowest" ["_law_top", "_law_bottom"] 2 qcR)(F:FunAt K mg "_law_are_one" ["_law_some"] s_l_are_one):Cal P w K mg base "_law_are_one" ["_law_some"] 3 qee:=by
 have S:=qcD
 refine F.cal qcD (fun vs H Q E h=>?_) (fun f cdv A outer s H vs Q E hr h=>?_)
 ·obtain ⟨p,xs,qs,rfl,_⟩:=h; rfl
 obtain ⟨p,xs,qs,rfl,hp,hs,hb,h0,fit,k⟩:=h
 refine ⟨_,(@pK _ _ _ _ _ (@qcG _ _ _ _ _ _ (@qar _ _ _ _ _ (@pC _ _ _ _ _ pI (@pC _ _ _ _ _ pI pN ⋯) ⋯)) (@qbW _ _ _ _ _ _ ⋯ (@qai _ _ _ _ _ (@pG _ _ (2) _ (by exact S.nd) ⋯ ⋯ ⋯) (@qai _ _ _ _ _ (@pG _ _ (3) _ (by exact S.nd) ⋯ ⋯ ⋯) qaX ⋯) ⋯) ⋯ ⋯) ⋯ ⋯ ⋯) (@pK _ _ _ _ _ (@qbK _ _ _ _ _ _ _ _ (by exact PassesOwn.never) ⋯ (@qbe _ _ _ _ (pv 0)) (@pG _ _ (1) _ (by exact S.nd) ⋯ ⋯ ⋯) (@pO _ _ _ (@qcG _ _ _ _ _ _ (@cc _ _ _ _ _ _ _ _ _ _ (by exact C_l_lowest) (by exact (hr.mono (by decide))) (@pC _ _ _ _ _ (@pP _ _ _ _ _ _ _ _ qaJ (@pP _ _ _ _ _ _ _ _ qct (pv 2) (@qaA _ _ _ _ _ _ _ qay (pv 1) pI (by exact (fun _ _=>rfl)))) (@pP _ _ _ _ _ _ _ _ qct (@qaA _ _ _ _ _ _ _ qay (pv 1) pI (by exact (fun _ _=>rfl))) (pv 3))) (@pC _ _ _ _ _ (@pP _ _ _ _ _ _ _ _ qct (pv 3) (@qaA _ _ _ _ _ _ _ qay (pv 1) pI (by exact (fun _ _=>rfl)))) pN ⋯) ⋯) ⋯ ⋯ ⋯ ⋯) (@qbW _ _ _ _ _ _ ⋯ (@qai _ _ _ _ _ (@pG _ _ (2) _ (by exact S.nd) ⋯ ⋯ ⋯) (@qai _ _ _ _ _ (@pG _ _ (3) _ (by exact S.nd) ⋯ ⋯ ⋯) qaX ⋯) ⋯) ⋯ ⋯) ⋯ ⋯ ⋯)) ⋯) (@pO _ _ _ (@qag _ _ _ _ (@qa4 _ _ _ _ _ _ _ _ qdq (pv 2) (pv 3) (by exact (qal _))))))),?_⟩
 refine ⟨lz 2 rfl,fun z hz=>?_⟩
 refine ⟨z,_,rfl,SqT.of uS,rfl,_,_,rfl,_,_,rfl,rfl,?_⟩
 have sz:=sN hz (.tup [.int 0,.int 1])
 refine ⟨_,rfl,p,rfl,⟨_,SqL.of (sz _ _ hp)⟩,qd1 (xs:=xs) (fun i σ H'=>Same H H'/\∃ o,σ=[some (.ref p),o,some (.int ((qs.take i).foldl (· + ·) 0).num),some (.int (((qs.take i).foldl (· + ·) 0).den:Int))]) ⟨sz,_,rfl⟩ (fun i σ H' _ ⟨s',_⟩=>SqL.of (s' _ _ hp)) ?_ ?_⟩
 ·rintro i x σ H' hi ⟨s',o,rfl⟩
  obtain ⟨q,hqi,hx⟩:=Paired.at' hs hi
  obtain ⟨py,rfl,hpy⟩:=hx.same s'
  have bq:=hb q (List.mem_of_getElem? hqi)
  have q0:=h0 q (List.mem_of_getElem? hqi)
  have bS:=fit i
  have S0:0≤(qs.take i).foldl (· + ·) 0:=qdt _ 0 (fun q h=>h0 q (List.mem_of_mem_take h)) (by decide)
  have eT:=qeA hqi
  generalize (qs.take i).foldl (· + ·) 0=S' at bS S0 eT
  have bot:=bS.2.mul bq.2
  have t0:0≤S'.num * (q.den:Int) + q.num * (S'.den:Int):=Int.add_nonneg (Int.mul_nonneg (Rat.num_nonneg.mpr S0) (by omega)) (Int.mul_nonneg (Rat.num_nonneg.mpr q0) (by omega))
  refine ⟨_,rfl,_,rfl,py,_,_,_,rfl,rfl,SqT.of hpy,rfl,_,_,rfl,rfl,⟨bS.1.mono (by decide),bq.2.mono (by decide)⟩,_,rfl,py,_,_,_,rfl,rfl,SqT.of hpy,rfl,_,rfl,_,_,rfl,rfl,⟨bq.1.mono (by decide),bS.2.mono (by decide)⟩,_,_,rfl,rfl,
   _,rfl,_,rfl,py,_,_,_,rfl,rfl,SqT.of hpy,rfl,_,_,rfl,rfl,⟨bS.2.mono (by decide),bq.2.mono (by decide)⟩,_,_,rfl,t0,qb5 S' q,bot.mono (by decide),fun v H2 s2 h2=>?_⟩
  have h2':PrAt H2 v (lowF (S'.num * (q.den:Int) + q.num * (S'.den:Int)) ((S'.den:Int) * (q.den:Int))):=h2
  rw [qkh] at h2'
  obtain ⟨pv,rfl,hpv⟩:=h2'
  refine ⟨pv,_,rfl,SqT.of hpv,rfl,_,_,rfl,_,_,rfl,rfl,s'.trans s2,some (.ref py),?_⟩
  rw [eT]
  rfl
 ·rintro σ H' ⟨s',o,rfl⟩
  have e:xs.length=qs.length:=Paired.length hs
  rw [e,List.take_length]
  refine ⟨_,rfl,_,rfl,rfl,?_⟩
  rw [qj9]
  exact k H' s'
end
end My
namespace My
open PySem L2 MA Srt PySem.Spec
theorem qj7 {X:Cx}(hu:X.A.units < cLine):OpR X (compareOp .Eq) (fun x y H Q=>∃ p q xs,x = .ref p/\y = .ref q/\H p=some (.lst xs)/\H q=some (.lst [])/\Q (.bl (decide (xs=[]))) H):=by
 intro pins s σ H x y v u Q I rx ry h
 obtain ⟨p,q,xs,rfl,rfl,h1,h2,k⟩:=h
 cases rx
 cases ry
 obtain ⟨us,r1,t1,z1⟩:=I.list (SqL.of h1)
 obtain ⟨ws,r2,t2,z2⟩:=I.list (SqL.of h2)
 cases r2
 by_cases e:xs=[]
 ·subst e
  cases r1
  refine SeqAt.eq_listAt (e:=fun _=>true) t1.isList t2.isList rfl hu (fun j a b=>absurd a (by simp)) (qat I k ?_)
  simp
 ·have hl:=r1.length
  refine SeqAt.eq_list_lengthsAt t1.isList t2.isList (by simp; intro z; rw [z] at hl; simp at hl; exact e hl) hu (qat I k ?_)
  simp [e]
def adC (x y:List Int):Bool:=lexI x y && (decide (x.length=y.length) && decide (x.sum=y.sum))
def adjA:List (List Int)->Bool
 | x :: y :: l=>adC x y && adjA (y :: l)
 | _=>true
def alk (h:List Int)(l:List (List Int)):Bool:=l.all fun x=>decide (x.length=h.length) && decide (x.sum=h.sum)
theorem qi0 (x:List Int)(l:List (List Int)):qdo (x :: l)=alk x l:=by
 show ((decide (x.length=x.length) && decide (x.sum=x.sum)) && alk x l)=_
 simp
theorem qim (x y:List Int)(l:List (List Int)):qej (x :: y :: l)=(lexI x y && qej (y :: l)):=rfl
theorem qjr:∀ (l:List (List Int)) (x:List Int),adjA (x :: l)=(alk x l && qej (x :: l))
 | [],x=>rfl
 | y :: l,x=>by
  rw [qim]
  show (adC x y && adjA (y :: l))=_
  rw [qjr l y]
  have e:alk x (y :: l)=((decide (y.length=x.length) && decide (y.sum=x.sum)) && alk x l):=rfl
  rw [e]
  unfold adC
  by_cases h1:x.length=y.length
  ·by_cases h2:x.sum=y.sum
   ·have:alk x l=alk y l:=by unfold alk; rw [h1,h2]
    rw [this,decide_eq_true h1,decide_eq_true h2,decide_eq_true h1.symm,decide_eq_true h2.symm]
    cases lexI x y <;> cases alk y l <;> rfl
   ·rw [decide_eq_false h2,decide_eq_false (show ¬ y.sum=x.sum from fun z=>h2 z.symm)]; simp
  ·rw [decide_eq_false h1,decide_eq_false (show ¬ y.length=x.length from fun z=>h1 z.symm)]; simp
theorem qkI:∀ ls,adjA ls=(qdo ls && qej ls)
 | []=>rfl
 | x :: l=>by rw [qjr,qi0]
theorem qjs:∀ {ls:List (List Int)},adjA ls=true->∀ i x y,ls[i]?=some x->ls[i + 1]?=some y->adC x y=true
 | [],_,i,x,y,h,_=>by simp at h
 | [z],_,i,x,y,_,h=>by simp at h
 | a :: b :: l,h,0,x,y,h1,h2=>by
  have h':adC a b=true/\adjA (b :: l)=true:=by simpa [adjA] using h
  cases h1; cases h2; exact h'.1
 | a :: b :: l,h,i + 1,x,y,h1,h2=>by
  have h':adC a b=true/\adjA (b :: l)=true:=by simpa [adjA] using h
  exact qjs h'.2 i x y (by simpa using h1) (by simpa using h2)
theorem qjq:∀ {ls:List (List Int)},(∀ i x y,ls[i]?=some x->ls[i + 1]?=some y->adC x y=true)->adjA ls=true
 | [],_=>rfl
 | [z],_=>rfl
 | a :: b :: l,h=>by
  have h1:=h 0 a b rfl rfl
  have h2:=qjq (ls:=b :: l) fun i x y e1 e2=>h (i + 1) x y (by simpa using e1) (by simpa using e2)
  simp [adjA,h1,h2]
theorem qeb (ds:List PyData):qaE (.list ds)=(ds.all rowD && (ds.all fun d=>qaD (fstD d)) && (adjA (lsD ds) && ((ds.all fun d=>posD (sndD d)) && decide ((qsD ds).foldl (· + ·) 0=1)))):=by
 rw [qkI]
 show (ds.all rowD && (ds.all fun d=>qaD (fstD d)) && (qdo (lsD ds) && (qej (lsD ds) && ((ds.all fun d=>posD (sndD d)) && decide ((qsD ds).foldl (· + ·) 0=1)))))=_
 rw [Bool.and_assoc (qdo (lsD ds))]
theorem qbv {ds:List PyData}{d:PyData}(hm:d∈ds)(h:rowD d=true->qaD (fstD d)=true->posD (sndD d)=true->False):qaE (.list ds)=false:=by
 cases e:qaE (.list ds) with
 | false=>rfl
 | true =>
  simp only [qaE,Bool.and_eq_true] at e
  exact absurd (h (List.all_eq_true.mp e.1.1 d hm) (List.all_eq_true.mp e.1.2 d hm) (List.all_eq_true.mp e.2.2.2.1 d hm)) id
section
variable {P:Program}{w:World}{K:PySem.W.Frag}{mg:Str->Option Value}{base:Heap}
theorem qlj (T:Txt2 mg)(C_l_is_load:Cal P w K mg base "_law_is_load" ["_law_thing"] 2 qdM)(C_l_is_share:Cal P w K mg base "_law_is_share" ["_law_thing"] 2 qdL)(C_l_are_one:Cal P w K mg base "_law_are_one" ["_law_some"] 3 qee)
  (F:FunAt K mg "_law_due" ["_law_thing"] s_l_due):Cal P w K mg base "_law_due" ["_law_thing"] 5 qb9:=by
 have S:=qfz
 refine F.cal qfz (fun vs H Q E h=>?_) (fun f cdv A outer s H vs Q E hr h=>?_)
 ·obtain ⟨v,d,rfl,_⟩:=h; rfl
 obtain ⟨v,d,rfl,hd,fit,k⟩:=h
 have hu:=hr.units0
 refine ⟨_,(@pK _ _ _ _ _ (@qa8 _ _ _ _ _ _ _ _ (@PW.pt _ _ _ (@qbq _ _ _ _ _ _ _ (@qa1 _ _ _ _ (@qaM _ _ _ (@qab _ _ _ _ _ _ _ _ _ qaH ⋯ (by exact T.z_isinstance) (by exact qae) (@pC _ _ _ _ _ (pv 0) (@pC _ _ _ _ _ (@qaU _ _ (.ty "list") _ _ ⋯ (by exact T.z_list) (by exact qdl) ⋯ ⋯ ⋯) pN ⋯) ⋯) ⋯ ⋯ ⋯ ⋯) ⋯)) (@qbm _ _ _ _ (@qaq _ _ _ _ _ _ _ _ (qj7 hu) (pv 0) (@qaN _ _ _ _ pN) (by exact (qal _)))))) (@pO _ _ _ (@qag _ _ _ _ qbi)) qau) (@pK _ _ _ _ _ (@qbK _ _ _ _ _ _ _ _ (by exact PassesOwn.never) ⋯ (@qbe _ _ _ _ (pv 0)) (@pG _ _ (1) _ (by exact S.nd) ⋯ ⋯ ⋯) (@pK _ _ _ _ _ (@qa8 _ _ _ _ _ _ _ _ (@PW.pt _ _ _ (@qbq _ _ _ _ _ _ _ (@qa1 _ _ _ _ (@qaM _ _ _ (@qab _ _ _ _ _ _ _ _ _ qaH ⋯ (by exact T.z_isinstance) (by exact qae) (@pC _ _ _ _ _ (pv 1) (@pC _ _ _ _ _ (@qaU _ _ (.ty "tuple") _ _ ⋯ (by exact T.z_tuple) (by exact qbp) ⋯ ⋯ ⋯) pN ⋯) ⋯) ⋯ ⋯ ⋯ ⋯) ⋯)) (@qbq _ _ _ _ _ _ _ (@qaq _ _ _ _ _ _ _ _ qeo (@qab _ _ _ _ _ _ _ _ _ qaj ⋯ (by exact T.z_len) (by exact qbd) (@pC _ _ _ _ _ (pv 1) pN ⋯) ⋯ ⋯ ⋯ ⋯) pI (by exact (qal _))) (@qbm _ _ _ _ (@qa1 _ _ _ _ (@qaM _ _ _ (@cc _ _ _ _ _ _ _ _ _ _ (by exact C_l_is_load) (by exact (hr.mono (by decide))) (@pC _ _ _ _ _ (@qaA _ _ _ _ _ _ _ qay (pv 1) pI (by exact (fun _ _=>rfl))) pN ⋯) ⋯ ⋯ ⋯ ⋯) ⋯)))))) (@pO _ _ _ (@qag _ _ _ _ qbi)) qau) (@pO _ _ _ (@qa8 _ _ _ _ _ _ _ _ (@PW.pt _ _ _ (@qbq _ _ _ _ _ _ _ (@qa1 _ _ _ _ (@qaM _ _ _ (@cc _ _ _ _ _ _ _ _ _ _ (by exact C_l_is_share) (by exact (hr.mono (by decide))) (@pC _ _ _ _ _ (@qaA _ _ _ _ _ _ _ qay (pv 1) pI (by exact (fun _ _=>rfl))) pN ⋯) ⋯ ⋯ ⋯ ⋯) ⋯)) (@qbm _ _ _ _ (@qaq _ _ _ _ _ _ _ _ qlf (@qaA _ _ _ _ _ _ _ qay (@qaA _ _ _ _ _ _ _ qay (pv 1) pI (by exact (fun _ _=>rfl))) pI (by exact (fun _ _=>rfl))) pI (by exact (qal _)))))) (@pO _ _ _ (@qag _ _ _ _ qbi)) qau))) ⋯) (@pK _ _ _ _ _ (@qbK _ _ _ _ _ _ _ _ (by exact PassesOwn.never) ⋯ (@qla _ _ _ _ _ _ _ _ _ ⋯ (by exact T.z_zip) (@pC _ _ _ _ _ (pv 0) (@pC _ _ _ _ _ (@qas _ _ _ _ _ _ _ _ _ _ qaR (pv 0) (@qaz _ _ _ pI) qaC) pN ⋯) ⋯) ⋯ ⋯) (@qbW _ _ _ _ _ _ ⋯ (@qai _ _ _ _ _ (@pG _ _ (2) _ (by exact S.nd) ⋯ ⋯ ⋯) (@qai _ _ _ _ _ (@pG _ _ (3) _ (by exact S.nd) ⋯ ⋯ ⋯) qaX ⋯) ⋯) ⋯ ⋯) (@pO _ _ _ (@qa8 _ _ _ _ _ _ _ _ (@PW.pt _ _ _ (@qbq _ _ _ _ _ _ _ (@qaq _ _ _ _ _ _ _ _ (qj4 hu) (@qaA _ _ _ _ _ _ _ qay (pv 2) pI (by exact (fun _ _=>rfl))) (@qaA _ _ _ _ _ _ _ qay (pv 3) pI (by exact (fun _ _=>rfl))) (by exact (qal _))) (@qbq _ _ _ _ _ _ _ (@qaq _ _ _ _ _ _ _ _ qeo (@qab _ _ _ _ _ _ _ _ _ qaj ⋯ (by exact T.z_len) (by exact qbd) (@pC _ _ _ _ _ (@qaA _ _ _ _ _ _ _ qay (pv 2) pI (by exact (fun _ _=>rfl))) pN ⋯) ⋯ ⋯ ⋯ ⋯) (@qab _ _ _ _ _ _ _ _ _ qaj ⋯ (by exact T.z_len) (by exact qbd) (@pC _ _ _ _ _ (@qaA _ _ _ _ _ _ _ qay (pv 3) pI (by exact (fun _ _=>rfl))) pN ⋯) ⋯ ⋯ ⋯ ⋯) (by exact (qal _))) (@qbm _ _ _ _ (@qaq _ _ _ _ _ _ _ _ qeo (@qab _ _ _ _ _ _ _ _ _ (qck ⋯) ⋯ (by exact T.z_sum) (by exact qeJ) (@pC _ _ _ _ _ (@qaA _ _ _ _ _ _ _ qay (pv 2) pI (by exact (fun _ _=>rfl))) pN ⋯) ⋯ ⋯ ⋯ ⋯) (@qab _ _ _ _ _ _ _ _ _ (qck ⋯) ⋯ (by exact T.z_sum) (by exact qeJ) (@pC _ _ _ _ _ (@qaA _ _ _ _ _ _ _ qay (pv 3) pI (by exact (fun _ _=>rfl))) pN ⋯) ⋯ ⋯ ⋯ ⋯) (by exact (qal _))))))) (@pO _ _ _ (@qag _ _ _ _ qbi)) qau)) ⋯) (@pO _ _ _ (@qag _ _ _ _ (@cc _ _ _ _ _ _ _ _ _ _ (by exact C_l_are_one) (by exact (hr.mono (by decide))) (@pC _ _ _ _ _ (@qdU _ _ _ _ _ _ _ _ _ _ _ (["_law_pair"]) (fun _=>[none]) ⋯ (by exact (fun _ _ h=>h)) (by decide +kernel) ⋯ (by decide +kernel) (by decide +kernel) (by exact Sees.none1) (@qbe _ _ _ _ (pv 0)) (fun _ _ _ _ _ => @pG _ _ (0) _ (by exact (show (["_law_pair"]:List Str).Nodup by decide +kernel)) ⋯ ⋯ ⋯) (fun _ _ _ _ _=>qba) (fun _ _ _ _ _=>(@qaA _ _ _ _ _ _ _ qht (pv 0) pI (by exact (fun _ _=>rfl)))) ⋯) pN ⋯) ⋯ ⋯ ⋯ ⋯)))))),?_⟩
 obtain ⟨t,ty,_,_,_,e4⟩:=tyOf (K:=K) hd
 refine ⟨_,rfl,_,_,_,_,rfl,ty,e4,_,rfl,?_⟩
 clear ty
 cases hd with
 | @lst p xs ds hp hl =>
  have ft:=fit ds rfl
  have hll:=hl.length
  have few:=ft.len
  refine iteF ⟨_,rfl,(by show 0≤sizeLine; decide),fun z hz=>?_⟩
  have s_H1:=sN hz (.lst [])
  have g_z:upd H z (.lst []) z=some (.lst []):=uS
  generalize upd H z (.lst [])=H1 at s_H1 g_z ⊢
  refine ⟨p,z,xs,rfl,rfl,s_H1 _ _ hp,g_z,_,rfl,ite2 (fun c=>?_) (fun c=>?_)⟩
  ·have e0:xs=[]:=of_decide_eq_true c
   have d0:ds=[]:=by rw [e0] at hl; cases hl; rfl
   have:=k H1 s_H1
   rw [d0] at this
   exact this
  have bad:qaE (.list ds)=false->∀ H',Same H1 H'->Q (.bl false) H':=fun e H' s'=>by
   have:=k H' (s_H1.trans s')
   rw [e] at this
   exact this
  refine ⟨_,rfl,p,rfl,⟨_,SqL.of (s_H1 _ _ hp)⟩,qd1 (xs:=xs) (fun i σ H'=>Same H1 H'/\(∃ o1,σ=[some (.ref p),o1,none,none])/\∀ j d,j < i->ds[j]?=some d->rowD d=true/\qaD (fstD d)=true/\posD (sndD d)=true) ⟨Same.refl _,⟨_,rfl⟩,fun j d hj=>absurd hj (by omega)⟩ (fun i σ H' _ ⟨s',_⟩=>SqL.of (s' _ _ (s_H1 _ _ hp))) ?_ ?_⟩
  ·rintro i x σ H' hi ⟨s',⟨o1,rfl⟩,hall⟩
   obtain ⟨d,hdi,hvd0⟩:=qam.get' hl hi
   have hdm:=List.mem_of_getElem? hdi
   have hvd:=(hvd0.same s_H1).same s'
   clear hvd0
   refine gN_ ?_
   obtain ⟨t',ty',_,_,e3,_⟩:=tyOf (K:=K) hvd
   refine ⟨_,rfl,_,_,_,_,rfl,ty',e3,_,rfl,?_⟩
   clear ty'
   cases hvd with
   | @tup b ys es hb he =>
    have hel:=he.length
    refine iteF ⟨_,rfl,b,_,rfl,.inr (SqT.of hb),rfl,_,rfl,ite2 (fun c2=>?_) (fun c2=>?_)⟩
    ·refine bad (qbv hdm fun h1 _ _=>?_) H' s'
     rw [qgV] at h1
     have h1':=of_decide_eq_true h1
     have:¬ V.int (ys.length:Int)=V.int 2:=by simpa using c2
     exact this (by rw [show ys.length=2 by omega]; rfl)
    have c3:ys.length=2:=by
     have:V.int (ys.length:Int)=V.int 2:=by simpa using c2
     have:=V.int.inj this
     omega
    obtain ⟨x1,x2,d1,d2,rfl,rfl,h1,h2⟩:=qdI he c3
    refine ⟨_,rfl,b,_,_,_,rfl,rfl,SqT.of hb,rfl,x1,d1,rfl,h1,fun fs e=>ft.tup _ hdm fs e,fun H2 s2=>⟨_,rfl,ite2 (fun c4=>?_) (fun c4=>?_)⟩⟩
    ·exact bad (qbv hdm fun _ h _=>by have h':qaD d1=true:=h; rw [h'] at c4; cases c4) H2 (s'.trans s2)
    have c5:qaD d1=true:=by simpa using c4
    refine ⟨_,rfl,b,_,_,_,rfl,rfl,SqT.of (s2 _ _ hb),rfl,x2,d2,rfl,h2.same s2,_,rfl,ite2 (fun c6=>?_) (fun c6=>?_)⟩
    ·exact bad (qbv hdm fun _ _ h=>by have h':posD d2=true:=h; rw [qfE (by simpa using c6)] at h'; cases h') H2 (s'.trans s2)
    have c7:qbB d2=true:=by simpa using c6
    obtain ⟨a0,b0,rfl,b1,g1⟩:=qfa c7
    obtain ⟨pa,rfl,hpa⟩:=data2 (h2.same s2)
    refine ⟨_,rfl,b,_,_,_,rfl,rfl,SqT.of (s2 _ _ hb),rfl,pa,_,_,_,rfl,rfl,SqT.of hpa,rfl,_,_,rfl,rfl,_,rfl,ite2 (fun c8=>?_) (fun c8=>?_)⟩
    ·have:a0≤0:=of_decide_eq_true c8
     exact bad (qbv hdm fun _ _ h=>by have h':posD (.tuple [.int a0,.int b0])=true:=h; obtain ⟨_,_,e,_,_,q⟩:=qc5 h'; cases e; omega) H2 (s'.trans s2)
    have c9:¬ a0≤0:=by simpa using c8
    refine ⟨s'.trans s2,⟨_,rfl⟩,fun j d' hj hj'=>?_⟩
    by_cases e:j < i
    ·exact hall j d' e hj'
    ·have:j=i:=by omega
     subst this
     rw [hdi] at hj'
     cases hj'
     refine ⟨rfl,c5,?_⟩
     show posD (.tuple [.int a0,.int b0])=true
     have:0 < a0:=by omega
     simp [posD,b1,g1,this]
   | _=>exact iteT (bad (qbv hdm fun h _ _=>by cases h) H' s')
  ·rintro σ H2 ⟨s2,⟨o1,rfl⟩,hall⟩
   have q1:ds.all rowD=true:=List.all_eq_true.mpr fun d hd=>by
    obtain ⟨j,hj,rfl⟩:=List.mem_iff_getElem.mp hd
    exact (hall j _ (by omega) (List.getElem?_eq_getElem hj)).1
   have q2:(ds.all fun d=>qaD (fstD d))=true:=List.all_eq_true.mpr fun d hd=>by
    obtain ⟨j,hj,rfl⟩:=List.mem_iff_getElem.mp hd
    exact (hall j _ (by omega) (List.getElem?_eq_getElem hj)).2.1
   have q3:(ds.all fun d=>posD (sndD d))=true:=List.all_eq_true.mpr fun d hd=>by
    obtain ⟨j,hj,rfl⟩:=List.mem_iff_getElem.mp hd
    exact (hall j _ (by omega) (List.getElem?_eq_getElem hj)).2.2
   obtain ⟨ps,r1,r2,r3⟩:=qjG hl q1 q2
   have pl:=Paired.length r1
   have ll:(lsD ds).length=ds.length:=by simp [lsD]
   have eqs:qaE (.list ds)=(adjA (lsD ds) && decide ((qsD ds).foldl (· + ·) 0=1)):=by rw [qeb,q1,q2,q3]; simp
   have hp2:=s2 _ _ (s_H1 _ _ hp)
   have s02:=s_H1.trans s2
   refine ⟨_,rfl,_,rfl,_,rfl,p,_,rfl,SqL.of hp2,fun N hN=>?_⟩
   have e1:cutV xs (some 1) none=xs.drop 1:=by
    have:=qbT (xs:=xs) (k:=1) (by have:xs≠[]:=fun z=>c (decide_eq_true z); have:=List.length_pos_iff.mpr this; omega)
    exact this
   rw [e1]
   have s_H3:=sN hN (.lst (xs.drop 1))
   have g_N:upd H2 N (.lst (xs.drop 1)) N=some (.lst (xs.drop 1)):=uS
   generalize upd H2 N (.lst (xs.drop 1))=H3 at s_H3 g_N ⊢
   refine ⟨p,N,rfl,⟨_,SqL.of (s_H3 _ _ hp2)⟩,⟨_,SqL.of g_N⟩,qiQ (xs:=xs) (ys:=xs.drop 1) (fun i σ H'=>Same H3 H'/\(∃ o1 o2 o3,σ=[some (.ref p),o1,o2,o3])/\∀ j x y,j < i->(lsD ds)[j]?=some x->(lsD ds)[j + 1]?=some y->adC x y=true) (by simp) ⟨Same.refl _,⟨_,_,_,rfl⟩,fun j x y hj=>absurd hj (by omega)⟩ (fun i σ H' _ h=>⟨SqL.of (h.1 _ _ (s_H3 _ _ hp2)),SqL.of (h.1 _ _ g_N)⟩) ?_ ?_⟩
   ·rintro i x y t0 σ H9 hx hy ⟨s9,⟨o1,o2,o3,rfl⟩,hadj⟩ ht0
    have hy':xs[i + 1]?=some y:=by rw [List.getElem?_drop,Nat.add_comm] at hy; exact hy
    obtain ⟨p1,hp1,a1,rfl,ha1⟩:=qan r1 hx
    obtain ⟨p2,hp2',a2,rfl,ha2⟩:=qan r1 hy'
    obtain ⟨n1,hn1,hb1⟩:=qan r2 (show (ps.map (·.1))[i]?=some p1.1 by rw [List.getElem?_map,hp1]; rfl)
    obtain ⟨n2,hn2,hb2⟩:=qan r2 (show (ps.map (·.1))[i + 1]?=some p2.1 by rw [List.getElem?_map,hp2']; rfl)
    have s_Ha:=sN ht0 (.tup [.ref a1,.ref a2])
    have g_t0:upd H9 t0 (.tup [.ref a1,.ref a2]) t0=some (.tup [.ref a1,.ref a2]):=uS
    generalize upd H9 t0 (.tup [.ref a1,.ref a2])=Ha at s_Ha g_t0 ⊢
    refine ⟨t0,_,rfl,SqT.of g_t0,rfl,_,_,rfl,_,_,rfl,rfl,?_⟩
    have sx:=s02.trans (s_H3.trans (s9.trans s_Ha))
    have s3a:=s9.trans s_Ha
    replace ha1:=sx _ _ ha1
    replace ha2:=sx _ _ ha2
    replace hb1:=sx _ _ hb1
    replace hb2:=sx _ _ hb2
    have bad2:adC n1 n2=false->Q (.bl false) Ha:=fun e=>by
     refine bad ?_ Ha (s2.trans (s_H3.trans s3a))
     rw [eqs]
     cases e':adjA (lsD ds) with
     | false=>rfl
     | true=>rw [qjs e' i n1 n2 hn1 hn2] at e; cases e
    refine ⟨_,rfl,a1,_,_,_,rfl,rfl,SqT.of ha1,rfl,_,rfl,a2,_,_,_,rfl,rfl,SqT.of ha2,rfl,p1.1,p2.1,n1,n2,rfl,rfl,hb1,hb2,_,rfl,ite2 (fun c2=>?_) (fun c2=>?_)⟩
    ·exact bad2 (by unfold adC; rw [show lexI n1 n2=false by simpa using c2]; rfl)
    have c3:lexI n1 n2=true:=by simpa using c2
    refine ⟨_,rfl,a1,_,_,_,rfl,rfl,SqT.of ha1,rfl,p1.1,_,rfl,.inr (SqT.of hb1),_,rfl,a2,_,_,_,rfl,rfl,SqT.of ha2,rfl,p2.1,_,rfl,.inr (SqT.of hb2),rfl,_,rfl,ite2 (fun c4=>?_) (fun c4=>?_)⟩
    ·have c5:¬ n1.length=n2.length:=fun e=>by
      have:¬ V.int ((iv n1).length:Int)=V.int ((iv n2).length:Int):=by simpa using c4
      exact this (by rw [List.length_map,List.length_map,e])
     exact bad2 (by unfold adC; rw [decide_eq_false c5]; simp)
    have c5:n1.length=n2.length:=by
     have:V.int ((iv n1).length:Int)=V.int ((iv n2).length:Int):=by simpa using c4
     have:=V.int.inj this
     rw [List.length_map,List.length_map] at this; omega
    refine ⟨_,rfl,a1,_,_,_,rfl,rfl,SqT.of ha1,rfl,p1.1,n1,rfl,hb1,_,rfl,a2,_,_,_,rfl,rfl,SqT.of ha2,rfl,p2.1,n2,rfl,hb2,rfl,_,rfl,ite2 (fun c6=>?_) (fun c6=>?_)⟩
    ·have c7:¬ n1.sum=n2.sum:=fun e=>by
      have:¬ V.int n1.sum=V.int n2.sum:=by simpa using c6
      exact this (by rw [e])
     exact bad2 (by unfold adC; rw [decide_eq_false c7]; simp)
    have c7:n1.sum=n2.sum:=by
     have:V.int n1.sum=V.int n2.sum:=by simpa using c6
     exact V.int.inj this
    refine ⟨s3a,⟨_,_,_,rfl⟩,fun j x y hj hx' hy''=>?_⟩
    by_cases e:j < i
    ·exact hadj j x y e hx' hy''
    ·have:j=i:=by omega
     subst this
     rw [hn1] at hx'
     rw [hn2] at hy''
     cases hx'
     cases hy''
     unfold adC
     rw [c3,decide_eq_true c5,decide_eq_true c7]; rfl
   ·rintro σ H9 ⟨s9,⟨o1,o2,o3,rfl⟩,hadj⟩
    have ad:adjA (lsD ds)=true:=qjq fun i x y hx hy=>by
     refine hadj i x y ?_ hx hy
     have:i + 1 < (lsD ds).length:=(List.getElem?_eq_some_iff.mp hy).1
     rw [List.length_drop]; omega
    have s29:=s_H3.trans s9
    have s09:=s02.trans s29
    refine ⟨_,rfl,p,rfl,⟨_,SqL.of (s09 _ _ hp)⟩,qb2 (qaT (xs:=xs)) (fun q i ys σ' H'=>Same H9 H'/\(∃ o1,σ'=[o1])/\ys=(ps.take i).map fun p=>p.2) (by omega) ?_ ?_ ?_ ?_⟩
    ·exact fun p hp=>⟨sN hp _,⟨_,rfl⟩,rfl⟩
    ·rintro q i ys σ' H' hq ⟨s',_⟩
     exact s' _ _ (s09 _ _ hp)
    ·rintro q i ys σ' H' x H'' hq hi hl' ⟨s',⟨o1,rfl⟩,rfl⟩ hp'' ⟨rfl,hx⟩ Q1 Q2 h1 h2
     obtain ⟨pp,hpi,a1,rfl,ha1⟩:=qan r1 hx
     refine gN_ (tT_ (iteT ⟨_,rfl,a1,_,_,_,rfl,rfl,s' _ _ (s09 _ _ ha1),rfl,?_⟩))
     exact h1 _ _ _ hp'' ⟨qaL hq s' _,⟨_,rfl⟩,by rw [take_snoc hpi,List.map_append]; rfl⟩
    rintro q7 ys σ' H7 hq7 ⟨s7,_,rfl⟩ hp7 hl7
    rw [pl,List.take_length] at hp7
    have q3':(ds.map sndD).all posD=true:=by rw [List.all_map]; exact q3
    have eq:(ds.map sndD).map qD=qsD ds:=by rw [List.map_map]; rfl
    refine ⟨q7,_,qsD ds,rfl,hp7,by rw [<- eq]; exact (qdj r3 q3').same (s09.trans s7),ft.sb,fun q hq=>?_,ft.part,fun H8 s8=>?_⟩
    ·rw [<- eq] at hq
     obtain ⟨d,hd,rfl⟩:=List.mem_map.mp hq
     exact Rat.le_of_lt (qjS (List.all_eq_true.mp q3' d hd))
    have:=k H8 (s09.trans (s7.trans s8))
    rw [eqs,ad,Bool.true_and] at this
    exact this
 | _=>exact iteT (k H (Same.refl _))
end
structure Kd (n e:Nat)(b:Bool)(d:PyData):Prop where
 sm:Sm n d
 dp:d.depth≤e
 fl:if b=true then d.hasDict=false else lists d=false
theorem Kd.mono {n e n' e':Nat}{b:Bool}{d:PyData}(h:Kd n e b d)(h1:n≤n')(h2:e≤e'):Kd n' e' b d:=⟨h.sm.mono h1,Nat.le_trans h.dp h2,h.fl⟩
theorem Kd.good {n e:Nat}{b:Bool}{d:PyData}(h:Kd n e b d)(h1:n≤100000)(h2:e≤20):Good d:=h.sm.good h1 (Nat.le_trans h.dp h2)
theorem qhr {n e:Nat}{b:Bool}:∀ {ds:List PyData},(∀ d∈ds,Kd n e b d)->PyData.depthAll ds≤e/\(if b=true then PyData.hasDictAll ds=false else qbc ds=false)
 | [],_=>⟨Nat.zero_le _,by cases b <;> rfl⟩
 | d :: ds,h=>by
  obtain ⟨h1,h2⟩:=qhr (fun d hd=>h d (List.mem_cons_of_mem _ hd)) (ds:=ds)
  have hd:=h d List.mem_cons_self
  refine ⟨by simp only [PyData.depthAll]; exact Nat.max_le.mpr ⟨hd.dp,h1⟩,?_⟩
  have h3:=hd.fl
  cases b
  ·simp only [Bool.false_eq_true,if_false] at h2 h3 ⊢
   simp [qbc,h2,h3]
  ·simp only [if_true] at h2 h3 ⊢
   simp [PyData.hasDictAll,h2,h3]
theorem qew {n e m:Nat}{b:Bool}{ds:List PyData}(h:∀ d∈ds,Kd n e b d)(hm:n + 1≤m)(hm2:ds.length * (n + 1)≤m):Kd m (e + 1) b (.tuple ds):=by
 obtain ⟨h1,h2⟩:=qhr h
 refine ⟨qi9 (fun d hd=>(h d hd).sm) ?_ hm hm2,by simp only [PyData.depth]; omega,?_⟩
 ·cases b
  ·simp only [Bool.false_eq_true,if_false] at h2
   rw [h2,Bool.and_false]
  ·simp only [if_true] at h2
   rw [h2,Bool.false_and]
 ·cases b
  ·simpa [lists] using h2
  ·simpa [PyData.hasDict] using h2
theorem kd_list {n e m:Nat}{ds:List PyData}(h:∀ d∈ds,Kd n e true d)(hm:n + 1≤m)(hm2:ds.length * (n + 1)≤m):Kd m (e + 1) true (.list ds):=by
 obtain ⟨h1,h2⟩:=qhr h
 simp only [if_true] at h2
 exact ⟨qjE (fun d hd=>(h d hd).sm) h2 hm hm2,by simp only [PyData.depth]; omega,by simpa [PyData.hasDict] using h2⟩
theorem qbH {i:Int}(h:i.natAbs≤1000)(b:Bool):Kd 10 1 b (.int i):=⟨qk2 (show I18 i by show i.natAbs < _; omega) 10,by simp [PyData.depth],by cases b <;> rfl⟩
theorem qfe (b:Bool):Kd 10 1 b .none:=⟨qjD 10,by simp [PyData.depth],by cases b <;> rfl⟩
theorem qd0 (k b:Bool):Kd 10 1 b (.bool k):=⟨qjF k 10,by simp [PyData.depth],by cases b <;> rfl⟩
theorem qhq {x:String}(h:x.length≤10)(b:Bool):Kd 10 1 b (.str (Str.ofString x)):=⟨qk1 h,by simp [PyData.depth],by cases b <;> rfl⟩
theorem qiL:Kd 10 1 false (.dict []):=⟨⟨rfl,rfl,by decide,rfl,by decide⟩,by decide,rfl⟩
def DP (H:Hp)(p:Addr)(v:V)(d:PyData):Prop:=qaP (res H (·≠p)) v d
def DPL (H:Hp)(p:Addr)(vs:List V)(ds:List PyData):Prop:=qam (res H (·≠p)) vs ds
theorem DP.data {H:Hp}{p:Addr}{v:V}{d:PyData}(h:DP H p v d):qaP H v d:=qaP.same qin h
theorem resX {H H':Hp}{p:Addr}(x:qaS p H H'):Same (res H (·≠p)) (res H' (·≠p)):=qil fun a o ha e=>x.all a o e ha
theorem DP.x {H H':Hp}{p:Addr}{v:V}{d:PyData}(h:DP H p v d)(x:qaS p H H'):DP H' p v d:=qaP.same (resX x) h
theorem DPL.x {H H':Hp}{p:Addr}{vs:List V}{ds:List PyData}(h:DPL H p vs ds)(x:qaS p H H'):DPL H' p vs ds:=qam.same (resX x) h
theorem DP.s {H H':Hp}{p:Addr}{v:V}{d:PyData}(h:DP H p v d)(x:Same H H'):DP H' p v d:=h.x (Same.x x)
theorem DPL.s {H H':Hp}{p:Addr}{vs:List V}{ds:List PyData}(h:DPL H p vs ds)(x:Same H H'):DPL H' p vs ds:=h.x (Same.x x)
theorem qaK {H:Hp}{p a:Addr}{n:Nat}{xs:List V}{ds:List PyData}(hp:Pen H p n)(h:H a=some (.tup xs))(l:DPL H p xs ds):DP H p (.ref a) (.tuple ds) :=
 .tup (by rw [qdR (S:=fun x=>x≠p) (a:=a) (hp.nep h)]; exact h) l
theorem qb1 {H:Hp}{p a:Addr}{n:Nat}{xs:List V}{ds:List PyData}(hp:Pen H p n)(h:H a=some (.lst xs))(l:DPL H p xs ds):DP H p (.ref a) (.list ds) :=
 .lst (by rw [qdR (S:=fun x=>x≠p) (a:=a) (hp.nep h)]; exact h) l
theorem qbM {H:Hp}{p:Addr}{xs ys:List V}{ds es:List PyData}(h1:DPL H p xs ds)(h2:DPL H p ys es):DPL H p (xs ++ ys) (ds ++ es):=qam.append h1 h2
theorem cutI (ns:List Int)(lo hi:Option Int):∃ ms:List Int,cutV (iv ns) lo hi=iv ms/\ms.length≤ns.length/\∀ x∈ms,x∈ns:=by
 unfold cutV
 generalize HT.sIx (iv ns).length 0 lo=i
 generalize HT.sIx (iv ns).length (iv ns).length hi - i=j
 refine ⟨(ns.drop i).take j,by rw [<- qkl,<- qhv],by simp; omega,fun x hx=>List.mem_of_mem_drop (List.mem_of_mem_take hx)⟩
theorem qg0 {H:Hp}{p:Addr}{G:PyData->Prop}{vs:List V}(h:∀ v∈vs,∃ d,DP H p v d/\G d){i:Int}(h0:0≤i)(h1:i < vs.length):∃ v d,atI vs i=some v/\DP H p v d/\G d:=by
 obtain ⟨j,rfl⟩:∃ j:Nat,i=(j:Int):=⟨i.toNat,by omega⟩
 have hj:j < vs.length:=by omega
 obtain ⟨d,h2,h3⟩:=h _ (List.getElem_mem hj)
 exact ⟨_,d,qbO (List.getElem?_eq_getElem hj),h2,h3⟩
theorem qaW (H:Hp)(p:Addr):∀ ms:List Int,DPL H p (iv ms) (ms.map PyData.int)
 | [] => .nil
 | x :: ms => .cons (.int x) (qaW H p ms)
structure FO (M:Nat)(d:PyData):Prop where
 kd:Kd 300 4 true d
 fs:∀ fs,d = .tuple fs->fs.length≤8/\∀ i:Int,PyData.int i∈fs->i.natAbs≤M + 41
structure SO (S:Nat)(d:PyData):Prop where
 kd:Kd 300 4 true d
 ab:∀ a b:Int,d = .tuple [.int a,.int b]->a.natAbs≤2 * S + 10/\b.natAbs≤2 * S + 10
theorem qde {ds:List PyData}(h:∀ d∈ds,Kd 30 3 true d)(hl:ds.length≤8):Kd 300 4 true (.tuple ds):=qew (n:=30) (e:=3) h (by decide) (by omega)
theorem qfj {M:Nat}{ms:List Int}(hM:M≤300)(hl:ms.length≤8)(h:∀ x∈ms,x.natAbs≤M + 41):FO M (.tuple (ms.map PyData.int)):=by
 refine ⟨qde (fun d hd=>?_) (by rw [List.length_map]; exact hl),fun fs e=>?_⟩
 ·obtain ⟨x,hx,rfl⟩:=List.mem_map.mp hd
  have:=h x hx
  exact (qbH (by omega) true).mono (by decide) (by decide)
 ·cases e
  refine ⟨by rw [List.length_map]; exact hl,fun i hi=>?_⟩
  obtain ⟨x,hx,e⟩:=List.mem_map.mp hi
  cases e
  exact h i hx
theorem qeB {M:Nat}{d:PyData}(h:Kd 300 4 true d)(h2:tyT d=false):FO M d:=⟨h,fun fs e=>by subst e; cases h2⟩
theorem qk0 {S:Nat}{d:PyData}(h:Kd 300 4 true d)(h2:tyT d=false):SO S d:=⟨h,fun a b e=>by subst e; cases h2⟩
theorem qkk {a b:Int}(ha:a.natAbs≤1000)(hb:b.natAbs≤1000):Kd 300 4 true (.tuple [.int a,.int b]):=qde (fun d hd=>by
 simp only [List.mem_cons,List.not_mem_nil,or_false] at hd
 rcases hd with rfl | rfl
 ·exact (qbH ha true).mono (by decide) (by decide)
 ·exact (qbH hb true).mono (by decide) (by decide)) (show 2≤8 by decide)
theorem qeY {S:Nat}{a b:Int}(hS:S≤400)(ha:a.natAbs≤2 * S + 10)(hb:b.natAbs≤2 * S + 10):SO S (.tuple [.int a,.int b]):=by
 refine ⟨qkk (by omega) (by omega),fun x y e=>?_⟩
 injection e with e; injection e with e1 e; injection e with e2 _; injection e1 with e1; injection e2 with e2
 subst e1 e2; exact ⟨ha,hb⟩
structure ElB (M S:Nat)(e:PyData):Prop where
 kd:Kd 1000 6 true e
 tup:∀ fs,fstD e = .tuple fs->fs.length≤8/\∀ i:Int,PyData.int i∈fs->i.natAbs≤M + 41
 shr:∀ a b:Int,sndD e = .tuple [.int a,.int b]->a.natAbs≤2 * S + 10/\b.natAbs≤2 * S + 10
theorem qdC {M S:Nat}{a b:PyData}(ha:FO M a)(hb:SO S b):ElB M S (.tuple [a,b]):=by
 refine ⟨qew (n:=300) (e:=5) (fun d hd=>?_) (by decide) (show 2 * (300 + 1)≤1000 by decide),fun fs e=>ha.fs fs e,fun x y e=>hb.ab x y e⟩
 simp only [List.mem_cons,List.not_mem_nil,or_false] at hd
 rcases hd with rfl | rfl
 ·exact ha.kd.mono (by decide) (by decide)
 ·exact hb.kd.mono (by decide) (by decide)
theorem qkx {M S:Nat}{a b c:PyData}(ha:FO M a)(hb:SO S b)(hc:SO S c):ElB M S (.tuple [a,b,c]):=by
 refine ⟨qew (n:=300) (e:=5) (fun d hd=>?_) (by decide) (show 3 * (300 + 1)≤1000 by decide),fun fs e=>ha.fs fs e,fun x y e=>hb.ab x y e⟩
 simp only [List.mem_cons,List.not_mem_nil,or_false] at hd
 rcases hd with rfl | rfl | rfl
 ·exact ha.kd.mono (by decide) (by decide)
 ·exact hb.kd.mono (by decide) (by decide)
 ·exact hc.kd.mono (by decide) (by decide)
structure Out (M S k:Nat)(d:PyData):Prop where
 kd:∃ b,Kd 20000 8 b d
 ls:∀ ds,d = .list ds->ds.length≤k/\∀ e∈ds,ElB M S e
theorem qcs {M S k:Nat}{d:PyData}{b:Bool}(h:Kd 20000 8 b d)(h2:tyL d=false):Out M S k d:=⟨⟨b,h⟩,fun ds e=>by subst e; cases h2⟩
theorem qbn {M S k:Nat}{ds:List PyData}(hk:k≤10)(hl:ds.length≤k)(h:∀ e∈ds,ElB M S e):Out M S k (.list ds):=by
 refine ⟨⟨true,kd_list (n:=1000) (e:=7) (fun d hd=>(h d hd).kd.mono (by decide) (by decide)) (by decide) (by omega)⟩,fun es e=>?_⟩
 cases e; exact ⟨hl,h⟩
def InB (M S:Nat)(rs:Spd):Prop:=∀ r∈rs,1≤r.1.length/\r.1.length≤6/\(∀ x∈r.1,0≤x/\x≤M)/\0 < r.2/\r.2.num≤S/\r.2.den≤S
theorem qfg {M:Nat}{ns:List Int}(h:∀ x∈ns,0≤x/\x≤M):∀ x∈ns,x.natAbs≤M + 41:=fun x hx=>by have:=h x hx; omega
section
variable {P:Program}{w:World}{K:PySem.W.Frag}{mg:Str->Option Value}{base:Heap}
def qi8:Sp:=fun vs H Q _=>∃ (p a:Addr) (ns:List Int) (M m:Nat),vs=[.ref p,.ref a]/\Pen H p m/\m < 60000/\H a=some (.tup (iv ns))/\1≤ns.length/\ns.length≤6/\(∀ x∈ns,0≤x/\x≤M)/\M≤300 /\
 ∀ v d H',DP H' p v d->FO M d->Pen H' p (m + 3)->qaS p H H'->Q v H'
theorem qkc (T:Txt2 mg)(C_l_draw:Cal P w K mg base "_law_draw" ["_law_pen_here", "_law_many"] 1 qcX)(F:FunAt K mg "_law_odd_load" ["_law_pen_here", "_law_load_here"] s_l_odd_load):Cal P w K mg base "_law_odd_load" ["_law_pen_here", "_law_load_here"] 2 qi8:=by
 have S:=qca
 refine F.cal qca (fun vs H Q E h=>?_) (fun f cdv A outer s H vs Q E hr h=>?_)
 ·obtain ⟨p,a,ns,M,m,rfl,_⟩:=h; rfl
 obtain ⟨p,a,ns,M,m,rfl,hp,hm,ha,n1,n6,nb,hM,k⟩:=h
 refine ⟨_,(@pK _ _ _ _ _ (@pZ _ _ (2) _ _ _ _ (by exact S.nd) ⋯ ⋯ (@cc _ _ _ _ _ _ _ _ _ _ (by exact C_l_draw) (by exact (hr.mono (by decide))) (@pC _ _ _ _ _ (pv 0) (@pC _ _ _ _ _ pI pN ⋯) ⋯) ⋯ ⋯ ⋯ ⋯) ⋯ ⋯) (@pK _ _ _ _ _ (@pZ _ _ (3) _ _ _ _ (by exact S.nd) ⋯ ⋯ (@cc _ _ _ _ _ _ _ _ _ _ (by exact C_l_draw) (by exact (hr.mono (by decide))) (@pC _ _ _ _ _ (pv 0) (@pC _ _ _ _ _ (@qab _ _ _ _ _ _ _ _ _ qaj ⋯ (by exact T.z_len) (by exact qbd) (@pC _ _ _ _ _ (pv 1) pN ⋯) ⋯ ⋯ ⋯ ⋯) pN ⋯) ⋯) ⋯ ⋯ ⋯ ⋯) ⋯ ⋯) (@pK _ _ _ _ _ (@pZ _ _ (4) _ _ _ _ (by exact S.nd) ⋯ ⋯ (@qaA _ _ _ _ _ _ _ qa0 (@qaN _ _ _ _ (@pC _ _ _ _ _ (@qf7 _ _ _ _ _ _ qds pI) (@pC _ _ _ _ _ qbi (@pC _ _ _ _ _ qjf (@pC _ _ _ _ _ qbg (@pC _ _ _ _ _ (@qar _ _ _ _ _ (@pC _ _ _ _ _ pI pN ⋯)) (@pC _ _ _ _ _ (@pP _ _ _ _ _ _ _ _ qaJ (@qaA _ _ _ _ _ _ _ qay (pv 1) (pv 3) (by exact (fun _ _=>rfl))) pI) (@pC _ _ _ _ _ pI (@pC _ _ _ _ _ pI pN ⋯) ⋯) ⋯) ⋯) ⋯) ⋯) ⋯) ⋯)) (@cc _ _ _ _ _ _ _ _ _ _ (by exact C_l_draw) (by exact (hr.mono (by decide))) (@pC _ _ _ _ _ (pv 0) (@pC _ _ _ _ _ pI pN ⋯) ⋯) ⋯ ⋯ ⋯ ⋯) (by exact (fun _ _=>rfl))) ⋯ ⋯) (@pK _ _ _ _ _ (@pZ _ _ (5) _ _ _ _ (by exact S.nd) ⋯ ⋯ (@qaN _ _ _ _ (@pC _ _ _ _ _ (@qjV _ _ _ _ _ _ _ _ (pv 1)) (@pC _ _ _ _ _ (@pP _ _ _ _ _ _ _ _ qda (pv 1) (@qar _ _ _ _ _ (@pC _ _ _ _ _ pI pN ⋯))) (@pC _ _ _ _ _ (@qas _ _ _ _ _ _ _ _ _ _ qcq (pv 1) qaC (@qaz _ _ _ (@qf7 _ _ _ _ _ _ qds pI))) (@pC _ _ _ _ _ (@qbk _ _ _ _ _ _ _ _ _ qcK ⋯ (by exact T.z_list) (by exact qdl) (@pC _ _ _ _ _ (pv 1) pN ⋯) ⋯ ⋯ ⋯ ⋯) (@pC _ _ _ _ _ (@pP _ _ _ _ _ _ _ _ qda (@pP _ _ _ _ _ _ _ _ qda (@qas _ _ _ _ _ _ _ _ _ _ qcq (pv 1) qaC (@qaz _ _ _ (pv 3))) (@qar _ _ _ _ _ (@pC _ _ _ _ _ (@pP _ _ _ _ _ _ _ _ qaJ (@qaA _ _ _ _ _ _ _ qay (pv 1) (pv 3) (by exact (fun _ _=>rfl))) pI) pN ⋯))) (@qas _ _ _ _ _ _ _ _ _ _ qcq (pv 1) (@qaz _ _ _ (@pP _ _ _ _ _ _ _ _ qaJ (pv 3) pI)) qaC)) (@pC _ _ _ _ _ (@pP _ _ _ _ _ _ _ _ qj2 (@qar _ _ _ _ _ (@pC _ _ _ _ _ pI pN ⋯)) pI) pN ⋯) ⋯) ⋯) ⋯) ⋯) ⋯)) ⋯ ⋯) (@pO _ _ _ (@qag _ _ _ _ (@qaA _ _ _ _ _ _ _ qa0 (@pP _ _ _ _ _ _ _ _ qbx (pv 5) (@qaN _ _ _ _ (@pC _ _ _ _ _ (@pP _ _ _ _ _ _ _ _ qda (@pP _ _ _ _ _ _ _ _ qda (@qas _ _ _ _ _ _ _ _ _ _ qcq (pv 1) qaC (@qaz _ _ _ (pv 3))) (@qar _ _ _ _ _ (@pC _ _ _ _ _ (pv 4) pN ⋯))) (@qas _ _ _ _ _ _ _ _ _ _ qcq (pv 1) (@qaz _ _ _ (@pP _ _ _ _ _ _ _ _ qaJ (pv 3) pI)) qaC)) (@pC _ _ _ _ _ (pv 4) pN ⋯) ⋯))) (pv 2) (by exact (fun _ _=>rfl))))))))),?_⟩
 refine ⟨_,rfl,p,_,m,rfl,hp,by omega,by decide,by decide,fun wy H1 w0 w8 p1 x1=>?_⟩
 have ha1:=hp.keep x1 ha
 refine ⟨_,rfl,_,rfl,a,_,rfl,.inr (SqT.of ha1),p,_,_,rfl,p1,by omega,by rw [List.length_map]; omega,by rw [List.length_map]; omega,fun at_ H2 a0 a1 p2 x2=>?_⟩
 rw [List.length_map] at a1
 have ha2:=p1.keep x2 ha1
 obtain ⟨j,rfl⟩:∃ j:Nat,at_=(j:Int):=⟨at_.toNat,by omega⟩
 have hj:j < ns.length:=by omega
 have hat:atI (iv ns) (j:Int)=some (.int ns[j]):=qlS (List.getElem?_eq_getElem hj)
 have hz:=nb _ (List.getElem_mem hj)
 generalize ns[j]=z at hat hz
 refine ⟨_,rfl,lz 1 rfl,fun o1 ho1=>?_⟩
 have s_H3:=sN ho1 (.tup [.int 1])
 have g_o1:upd H2 o1 (.tup [.int 1]) o1=some (.tup [.int 1]):=uS
 generalize upd H2 o1 (.tup [.int 1])=H3 at s_H3 g_o1 ⊢
 refine ⟨_,rfl,_,rfl,a,_,_,_,rfl,rfl,SqT.of (s_H3 _ _ ha2),hat,_,_,rfl,rfl,lz 8 rfl,fun ol hol=>?_⟩
 have s_H4:=sN hol (.lst [.int (-1),.bl true,.non,.str "1",.ref o1,.int (z + 1),.int 41,.int 0])
 have g_ol:upd H3 ol (.lst [.int (-1),.bl true,.non,.str "1",.ref o1,.int (z + 1),.int 41,.int 0]) ol=some (.lst [.int (-1),.bl true,.non,.str "1",.ref o1,.int (z + 1),.int 41,.int 0]):=uS
 generalize upd H3 ol (.lst [.int (-1),.bl true,.non,.str "1",.ref o1,.int (z + 1),.int 41,.int 0])=H4 at s_H4 g_ol ⊢
 have p4:=p2.same (s_H3.trans s_H4)
 refine ⟨_,rfl,p,_,_,rfl,p4,by omega,by decide,by decide,fun d3 H5 d30 d31 p5 x5=>?_⟩
 have oddAll:∀ v∈[V.int (-1),.bl true,.non,.str "1",.ref o1,.int (z + 1),.int 41,.int 0],∃ d,DP H4 p v d/\Kd 30 3 true d/\FO M d/\∀ i:Int,d = .int i->i.natAbs≤M + 41:=by
  intro v hv
  have ki:∀ i:Int,i.natAbs≤M + 41->Kd 30 3 true (.int i)/\FO M (.int i)/\∀ i':Int,PyData.int i = .int i'->i'.natAbs≤M + 41:=fun i h=>⟨(qbH (by omega) true).mono (by decide) (by decide),qeB ((qbH (by omega) true).mono (by decide) (by decide)) rfl,fun i' e=>by cases e; exact h⟩
  simp only [List.mem_cons,List.not_mem_nil,or_false] at hv
  rcases hv with rfl | rfl | rfl | rfl | rfl | rfl | rfl | rfl
  ·exact ⟨_,.int _,ki _ (by omega)⟩
  ·exact ⟨_,.bl _,(qd0 _ true).mono (by decide) (by decide),qeB ((qd0 _ true).mono (by decide) (by decide)) rfl,fun i e=>by cases e⟩
  ·exact ⟨_,.non,(qfe true).mono (by decide) (by decide),qeB ((qfe true).mono (by decide) (by decide)) rfl,fun i e=>by cases e⟩
  ·exact ⟨_,.str _,(qhq (x := "1") (by decide) true).mono (by decide) (by decide),qeB ((qhq (x := "1") (by decide) true).mono (by decide) (by decide)) rfl,fun i e=>by cases e⟩
  ·exact ⟨_,qaK p4 (s_H4 _ _ g_o1) (qaW _ _ [1]),qew (n:=10) (e:=1) (m:=30) (by simpa using qbH (i:=1) (by decide) true) (by decide) (by decide) |>.mono (by decide) (by decide),qfj hM (by decide) (by simp),fun i e=>by cases e⟩
  ·exact ⟨_,.int _,ki _ (by omega)⟩
  ·exact ⟨_,.int _,ki _ (by omega)⟩
  ·exact ⟨_,.int _,ki _ (by omega)⟩
 obtain ⟨vo,od,hoat,dvo,kdo,foo,ioo⟩:=qg0 oddAll d30 (by simpa using d31)
 refine ⟨ol,_,_,_,rfl,rfl,SqL.of (p4.keep x5 g_ol),hoat,?_⟩
 refine gN_ ?_
 have dv5:=dvo.x x5
 have ha5:=p4.keep x5 ((s_H3.trans s_H4) _ _ ha2)
 have x05:qaS p H H5:=((x1.trans x2).trans (Same.x (s_H3.trans s_H4))).trans x5
 clear oddAll hoat g_ol g_o1 x1 x2 x5 p1 p2 p4 dvo ha1 ha2
 obtain ⟨m1,e1,l1,b1⟩:=cutI ns none (some (-1))
 obtain ⟨m2,e2,l2,b2⟩:=cutI ns none (some (j:Int))
 obtain ⟨m3,e3,l3,b3⟩:=cutI ns (some ((j:Int) + 1)) none
 have sI:∀ {ms:List Int},(∀ x∈ms,x∈ns)->∀ x∈ms,x.natAbs≤M + 41:=fun h x hx=>qfg nb x (h x hx)
 have l5:m2.length + m3.length≤6:=by
  have h2:m2.length=(cutV (iv ns) none (some (j:Int))).length:=by rw [e2,List.length_map]
  have h3:m3.length=(cutV (iv ns) (some ((j:Int) + 1)) none).length:=by rw [e3,List.length_map]
  have c2:=qd5 (xs:=iv ns) (k:=j) (by rw [List.length_map]; omega)
  have c3:=qbT (xs:=iv ns) (k:=j + 1) (by rw [List.length_map]; omega)
  rw [show (((j + 1:Nat):Nat):Int)=(j:Int) + 1 by omega] at c3
  rw [c2,List.length_take,List.length_map] at h2
  rw [c3,List.length_drop,List.length_map] at h3
  omega
 refine ⟨_,rfl,a,_,rfl,ha5,fun t1 ht1=>?_⟩
 have s_B1:=sN ht1 (.tup (iv ns).reverse)
 have g_t1:upd H5 t1 (.tup (iv ns).reverse) t1=some (.tup (iv ns).reverse):=uS
 generalize upd H5 t1 (.tup (iv ns).reverse)=B1 at s_B1 g_t1 ⊢
 refine ⟨_,rfl,lz 1 rfl,fun t2 ht2=>?_⟩
 have s_B2:=sN ht2 (.tup [.int 0])
 have g_t2:upd B1 t2 (.tup [.int 0]) t2=some (.tup [.int 0]):=uS
 generalize upd B1 t2 (.tup [.int 0])=B2 at s_B2 g_t2 ⊢
 refine ⟨a,t2,_,_,rfl,rfl,(s_B1.trans s_B2) _ _ ha5,g_t2,by rw [List.length_map]; show _ + 1≤1000; omega,fun t3 B3 s_B3 g_t3=>?_⟩
 have s53:=s_B1.trans (s_B2.trans s_B3)
 refine ⟨_,rfl,_,rfl,_,rfl,a,_,rfl,s53 _ _ ha5,fun t4 B4 s_B4 g_t4=>?_⟩
 have s54:=s53.trans s_B4
 refine ⟨_,rfl,a,_,rfl,.inr (SqT.of (s54 _ _ ha5)),fun t5 ht5=>?_⟩
 have s_B5:=sN ht5 (.lst (iv ns))
 have g_t5:upd B4 t5 (.lst (iv ns)) t5=some (.lst (iv ns)):=uS
 generalize upd B4 t5 (.lst (iv ns))=B5 at s_B5 g_t5 ⊢
 have s55:=s54.trans s_B5
 refine ⟨_,rfl,_,rfl,_,rfl,a,_,rfl,s55 _ _ ha5,fun t6 B6 s_B6 g_t6=>?_⟩
 have s56:=s55.trans s_B6
 refine ⟨_,rfl,_,rfl,a,_,_,_,rfl,rfl,SqT.of (s56 _ _ ha5),hat,_,_,rfl,rfl,lz 1 rfl,fun t7 ht7=>?_⟩
 have s_B7:=sN ht7 (.tup [.int (z + 1)])
 have g_t7:upd B6 t7 (.tup [.int (z + 1)]) t7=some (.tup [.int (z + 1)]):=uS
 generalize upd B6 t7 (.tup [.int (z + 1)])=B7 at s_B7 g_t7 ⊢
 have s57:=s56.trans s_B7
 refine ⟨t6,t7,_,_,rfl,rfl,s_B7 _ _ g_t6,g_t7,by rw [e2,List.length_map]; show _ + 1≤1000; omega,fun t8 B8 s_B8 g_t8=>?_⟩
 have s58:=s57.trans s_B8
 refine ⟨_,rfl,_,rfl,_,_,rfl,rfl,_,rfl,a,_,rfl,s58 _ _ ha5,fun t9 B9 s_B9 g_t9=>?_⟩
 have s59:=s58.trans s_B9
 refine ⟨t8,t9,_,_,rfl,rfl,s_B9 _ _ g_t8,g_t9,by rw [e2,e3,List.length_append,List.length_map,List.length_map]; show _ + 1 + _≤1000; omega,fun ta Ba s_Ba g_ta=>?_⟩
 have s5a:=s59.trans s_Ba
 refine ⟨lz 1 rfl,fun tb htb=>?_⟩
 have s_Bb:=sN htb (.tup [.int 0])
 have g_tb:upd Ba tb (.tup [.int 0]) tb=some (.tup [.int 0]):=uS
 generalize upd Ba tb (.tup [.int 0])=Bb at s_Bb g_tb ⊢
 have s5b:=s5a.trans s_Bb
 refine ⟨tb,_,_,rfl,rfl,g_tb,by simp,by decide,by decide,by decide,fun tc Bc s_Bc g_tc=>?_⟩
 refine ⟨lz 6 rfl,fun sl hsl=>?_⟩
 have s_Bd:=sN hsl (.lst [.ref t1,.ref t3,.ref t4,.ref t5,.ref ta,.ref tc])
 have g_sl:upd Bc sl (.lst [.ref t1,.ref t3,.ref t4,.ref t5,.ref ta,.ref tc]) sl=some (.lst [.ref t1,.ref t3,.ref t4,.ref t5,.ref ta,.ref tc]):=uS
 generalize upd Bc sl (.lst [.ref t1,.ref t3,.ref t4,.ref t5,.ref ta,.ref tc])=Bd at s_Bd g_sl ⊢
 have s5d:=s5b.trans (s_Bc.trans s_Bd)
 have k1:Bd t1=some (.tup (iv ns.reverse)):=by
  have:=(s_B2.trans (s_B3.trans (s_B4.trans (s_B5.trans (s_B6.trans (s_B7.trans (s_B8.trans (s_B9.trans (s_Ba.trans (s_Bb.trans (s_Bc.trans s_Bd))))))))))) _ _ g_t1
  rw [this]; unfold iv; rw [List.map_reverse]
 have k3:=(s_B4.trans (s_B5.trans (s_B6.trans (s_B7.trans (s_B8.trans (s_B9.trans (s_Ba.trans (s_Bb.trans (s_Bc.trans s_Bd))))))))) _ _ g_t3
 have k4:=(s_B5.trans (s_B6.trans (s_B7.trans (s_B8.trans (s_B9.trans (s_Ba.trans (s_Bb.trans (s_Bc.trans s_Bd)))))))) _ _ g_t4
 have k5:=(s_B6.trans (s_B7.trans (s_B8.trans (s_B9.trans (s_Ba.trans (s_Bb.trans (s_Bc.trans s_Bd))))))) _ _ g_t5
 have ka:=(s_Bb.trans (s_Bc.trans s_Bd)) _ _ g_ta
 have kc:=s_Bd _ _ g_tc
 clear s_B1 s_B2 s_B3 s_B4 s_B5 s_B6 s_B7 s_B8 s_B9 s_Ba s_Bb s_Bc s_Bd s53 s54 s55 s56 s57 s58 s59 s5a s5b g_t1 g_t2 g_t3 g_t4 g_t5 g_t6 g_t7 g_t8 g_t9 g_ta g_tb g_tc
 refine gN_ ?_
 have had:=s5d _ _ ha5
 have dvd:=dv5.s s5d
 refine ⟨_,rfl,_,rfl,_,rfl,_,rfl,a,_,rfl,had,fun u1 C1 s_C1 g_u1=>?_⟩
 refine ⟨_,rfl,lz 1 rfl,fun u2 hu2=>?_⟩
 have s_C2:=sN hu2 (.tup [vo])
 have g_u2:upd C1 u2 (.tup [vo]) u2=some (.tup [vo]):=uS
 generalize upd C1 u2 (.tup [vo])=C2 at s_C2 g_u2 ⊢
 refine ⟨u1,u2,_,_,rfl,rfl,s_C2 _ _ g_u1,g_u2,by rw [e2,List.length_map]; show _ + 1≤1000; omega,fun u3 C3 s_C3 g_u3=>?_⟩
 have sC3:=s_C1.trans (s_C2.trans s_C3)
 refine ⟨_,rfl,_,rfl,_,_,rfl,rfl,_,rfl,a,_,rfl,sC3 _ _ had,fun u4 C4 s_C4 g_u4=>?_⟩
 refine ⟨u3,u4,_,_,rfl,rfl,s_C4 _ _ g_u3,g_u4,by rw [e2,e3,List.length_append,List.length_map,List.length_map]; show _ + 1 + _≤1000; omega,fun u5 C5 s_C5 g_u5=>?_⟩
 refine ⟨_,rfl,lz 2 rfl,fun l2 hl2=>?_⟩
 have s_C6:=sN hl2 (.lst [.ref u5,vo])
 have g_l2:upd C5 l2 (.lst [.ref u5,vo]) l2=some (.lst [.ref u5,vo]):=uS
 generalize upd C5 l2 (.lst [.ref u5,vo])=C6 at s_C6 g_l2 ⊢
 have sC6:=sC3.trans (s_C4.trans (s_C5.trans s_C6))
 refine ⟨sl,l2,_,_,rfl,rfl,sC6 _ _ g_sl,g_l2,lz 8 rfl,fun l3 hl3=>?_⟩
 have s_C7:=sN hl3 (.lst ([.ref t1,.ref t3,.ref t4,.ref t5,.ref ta,.ref tc] ++ [.ref u5,vo]))
 have g_l3:upd C6 l3 (.lst ([.ref t1,.ref t3,.ref t4,.ref t5,.ref ta,.ref tc] ++ [.ref u5,vo])) l3=some (.lst ([.ref t1,.ref t3,.ref t4,.ref t5,.ref ta,.ref tc] ++ [.ref u5,vo])):=uS
 generalize upd C6 l3 (.lst ([.ref t1,.ref t3,.ref t4,.ref t5,.ref ta,.ref tc] ++ [.ref u5,vo]))=C7 at s_C7 g_l3 ⊢
 have sC7:=sC6.trans s_C7
 have s07:=s5d.trans sC7
 have pf:=p5.same s07
 have ku:=(s_C6.trans s_C7) _ _ g_u5
 have all:∀ v∈[V.ref t1,.ref t3,.ref t4,.ref t5,.ref ta,.ref tc] ++ [V.ref u5,vo],∃ d,DP C7 p v d/\FO M d:=by
  intro v hv
  have hI:∀ {c:Addr} {ms:List Int},C7 c=some (.tup (iv ms))->ms.length≤8->(∀ x∈ms,x.natAbs≤M + 41)->∃ d,DP C7 p (.ref c) d/\FO M d:=fun h h1 h2=>⟨_,qaK pf h (qaW _ _ _),qfj hM h1 h2⟩
  simp only [List.cons_append,List.nil_append,List.mem_cons,List.not_mem_nil,or_false] at hv
  rcases hv with rfl | rfl | rfl | rfl | rfl | rfl | rfl | rfl
  ·exact hI (sC7 _ _ k1) (by rw [List.length_reverse]; omega) (sI fun x hx=>List.mem_reverse.mp hx)
  ·refine hI (ms:=ns ++ [0]) (by rw [sC7 _ _ k3]; unfold iv; rw [List.map_append]; rfl) (by simp; omega) fun x hx=>?_
   rcases List.mem_append.mp hx with y | y
   ·exact qfg nb x y
   ·rw [List.mem_singleton.mp y]; show 0≤M + 41; omega
  ·exact hI (ms:=m1) (by rw [sC7 _ _ k4,e1]) (by omega) (sI b1)
  ·refine ⟨_,qb1 pf (sC7 _ _ k5) (qaW _ _ _),qeB (kd_list (n:=10) (e:=1) (fun d hd=>?_) (by decide) (by rw [List.length_map]; omega) |>.mono (Nat.le_refl _) (by decide)) rfl⟩
   obtain ⟨x,hx,rfl⟩:=List.mem_map.mp hd
   have:=nb x hx
   exact qbH (by omega) true
  ·refine hI (ms:=(m2 ++ [z + 1]) ++ m3) (by rw [sC7 _ _ ka,e2,e3]; unfold iv; rw [List.map_append,List.map_append]; rfl) (by simp only [List.length_append,List.length_cons,List.length_nil]; omega) fun x hx=>?_
   rcases List.mem_append.mp hx with y | y
   ·rcases List.mem_append.mp y with y | y
    ·exact sI b2 x y
    ·rw [List.mem_singleton.mp y]; omega
   ·exact sI b3 x y
  ·exact hI (ms:=List.replicate 7 0) (sC7 _ _ kc) (by decide) fun x hx=>by rw [(List.mem_replicate.mp hx).2]; show 0≤M + 41; omega
  ·refine ⟨.tuple ((m2.map PyData.int ++ [od]) ++ m3.map PyData.int),qaK pf (by rw [ku,e2,e3]) (qbM (qbM (qaW _ _ _) (.cons (dvd.s sC7) .nil)) (qaW _ _ _)),⟨qde (fun d hd=>?_) (by simp only [List.length_append,List.length_map,List.length_cons,List.length_nil]; omega),fun fs e=>?_⟩⟩
   ·have kI:∀ {ms:List Int},(∀ x∈ms,x∈ns)->d∈ms.map PyData.int->Kd 30 3 true d:=fun h hd=>by
     obtain ⟨x,hx,rfl⟩:=List.mem_map.mp hd
     have:=sI h x hx
     exact (qbH (by omega) true).mono (by decide) (by decide)
    rcases List.mem_append.mp hd with y | y
    ·rcases List.mem_append.mp y with y | y
     ·exact kI b2 y
     ·rw [List.mem_singleton.mp y]; exact kdo
    ·exact kI b3 y
   ·cases e
    refine ⟨by simp only [List.length_append,List.length_map,List.length_cons,List.length_nil]; omega,fun i hi=>?_⟩
    have kI:∀ {ms:List Int},(∀ x∈ms,x∈ns)->PyData.int i∈ms.map PyData.int->i.natAbs≤M + 41:=fun h hd=>by
     obtain ⟨x,hx,e⟩:=List.mem_map.mp hd
     cases e
     exact sI h i hx
    rcases List.mem_append.mp hi with y | y
    ·rcases List.mem_append.mp y with y | y
     ·exact kI b2 y
     ·exact ioo i (List.mem_singleton.mp y).symm
    ·exact kI b3 y
  ·exact ⟨od,dvd.s sC7,foo⟩
 obtain ⟨vr,dr,hat2,dvr,forr⟩:=qg0 all w0 (by simpa using w8)
 refine ⟨_,rfl,l3,_,_,_,rfl,rfl,SqL.of g_l3,hat2,?_⟩
 exact k vr dr C7 dvr forr (pf.mono (by omega)) (x05.trans (Same.x s07))
end
section
variable {P:Program}{w:World}{K:PySem.W.Frag}{mg:Str->Option Value}{base:Heap}
def qi7:Sp:=fun vs H Q _=>∃ (p a:Addr) (t b:Int) (S m:Nat),vs=[.ref p,.ref a]/\Pen H p m/\m < 60000/\H a=some (.tup [.int t,.int b])/\0≤t/\t≤S/\0≤b/\b≤S/\S≤400 /\
 ∀ v d H',DP H' p v d->SO S d->Pen H' p (m + 1)->qaS p H H'->Q v H'
theorem qkb (T:Txt2 mg)(C_l_draw:Cal P w K mg base "_law_draw" ["_law_pen_here", "_law_many"] 1 qcX)(F:FunAt K mg "_law_odd_share" ["_law_pen_here", "_law_one"] s_l_odd_share):Cal P w K mg base "_law_odd_share" ["_law_pen_here", "_law_one"] 2 qi7:=by
 have S:=qbV
 refine F.cal qbV (fun vs H Q E h=>?_) (fun f cdv A outer s H vs Q E hr h=>?_)
 ·obtain ⟨p,a,t,b,Z,m,rfl,_⟩:=h; rfl
 obtain ⟨p,a,t,b,Z,m,rfl,hp,hm,ha,t0,t1,b0,b1,hS,k⟩:=h
 refine ⟨_,(@pK _ _ _ _ _ (@pZ _ _ (2) _ _ _ _ (by exact S.nd) ⋯ ⋯ (@cc _ _ _ _ _ _ _ _ _ _ (by exact C_l_draw) (by exact (hr.mono (by decide))) (@pC _ _ _ _ _ (pv 0) (@pC _ _ _ _ _ pI pN ⋯) ⋯) ⋯ ⋯ ⋯ ⋯) ⋯ ⋯) (@pK _ _ _ _ _ (@qcG _ _ _ _ _ _ (pv 1) (@qbW _ _ _ _ _ _ ⋯ (@qai _ _ _ _ _ (@pG _ _ (3) _ (by exact S.nd) ⋯ ⋯ ⋯) (@qai _ _ _ _ _ (@pG _ _ (4) _ (by exact S.nd) ⋯ ⋯ ⋯) qaX ⋯) ⋯) ⋯ ⋯) ⋯ ⋯ ⋯) (@pO _ _ _ (@qag _ _ _ _ (@qaA _ _ _ _ _ _ _ qa0 (@qaN _ _ _ _ (@pC _ _ _ _ _ (@qar _ _ _ _ _ (@pC _ _ _ _ _ (@pP _ _ _ _ _ _ _ _ qbX (pv 3) pI) (@pC _ _ _ _ _ (@pP _ _ _ _ _ _ _ _ qbX (pv 4) pI) pN ⋯) ⋯)) (@pC _ _ _ _ _ (@qar _ _ _ _ _ (@pC _ _ _ _ _ pI (@pC _ _ _ _ _ pI pN ⋯) ⋯)) (@pC _ _ _ _ _ (@qar _ _ _ _ _ (@pC _ _ _ _ _ (@pP _ _ _ _ _ _ _ _ qen pI (pv 3)) (@pC _ _ _ _ _ (pv 4) pN ⋯) ⋯)) (@pC _ _ _ _ _ (@qar _ _ _ _ _ (@pC _ _ _ _ _ (@pP _ _ _ _ _ _ _ _ qaJ (pv 3) pI) (@pC _ _ _ _ _ (pv 4) pN ⋯) ⋯)) (@pC _ _ _ _ _ (@qaN _ _ _ _ (@pC _ _ _ _ _ (pv 3) (@pC _ _ _ _ _ (pv 4) pN ⋯) ⋯)) (@pC _ _ _ _ _ (@qar _ _ _ _ _ (@pC _ _ _ _ _ pI (@pC _ _ _ _ _ pI pN ⋯) ⋯)) (@pC _ _ _ _ _ (@qar _ _ _ _ _ (@pC _ _ _ _ _ qbi (@pC _ _ _ _ _ (pv 4) pN ⋯) ⋯)) (@pC _ _ _ _ _ (@qar _ _ _ _ _ (@pC _ _ _ _ _ (pv 3) (@pC _ _ _ _ _ (pv 4) (@pC _ _ _ _ _ pI pN ⋯) ⋯) ⋯)) pN ⋯) ⋯) ⋯) ⋯) ⋯) ⋯) ⋯) ⋯)) (pv 2) (by exact (fun _ _=>rfl))))))),?_⟩
 refine ⟨_,rfl,p,_,m,rfl,hp,by omega,by decide,by decide,fun wy H1 w0 w8 p1 x1=>?_⟩
 refine gN_ ?_
 refine ⟨_,rfl,a,_,rfl,SqT.of (hp.keep x1 ha),rfl,_,_,rfl,_,_,rfl,rfl,?_⟩
 refine ⟨_,rfl,_,_,rfl,rfl,.inr ⟨by decide,by decide⟩,_,rfl,_,_,rfl,rfl,.inr ⟨by decide,by decide⟩,lz 2 rfl,fun u1 hu1=>?_⟩
 have s_B1:=sN hu1 (.tup [.int (t * 2),.int (b * 2)])
 have g_u1:upd H1 u1 (.tup [.int (t * 2),.int (b * 2)]) u1=some (.tup [.int (t * 2),.int (b * 2)]):=uS
 generalize upd H1 u1 (.tup [.int (t * 2),.int (b * 2)])=B1 at s_B1 g_u1 ⊢
 refine ⟨lz 2 rfl,fun u2 hu2=>?_⟩
 have s_B2:=sN hu2 (.tup [.int 0,.int 1])
 have g_u2:upd B1 u2 (.tup [.int 0,.int 1]) u2=some (.tup [.int 0,.int 1]):=uS
 generalize upd B1 u2 (.tup [.int 0,.int 1])=B2 at s_B2 g_u2 ⊢
 refine ⟨_,rfl,_,_,rfl,rfl,_,rfl,lz 2 rfl,fun u3 hu3=>?_⟩
 have s_B3:=sN hu3 (.tup [.int (0 - t),.int b])
 have g_u3:upd B2 u3 (.tup [.int (0 - t),.int b]) u3=some (.tup [.int (0 - t),.int b]):=uS
 generalize upd B2 u3 (.tup [.int (0 - t),.int b])=B3 at s_B3 g_u3 ⊢
 refine ⟨_,rfl,_,_,rfl,rfl,_,rfl,lz 2 rfl,fun u4 hu4=>?_⟩
 have s_B4:=sN hu4 (.tup [.int (t + 1),.int b])
 have g_u4:upd B3 u4 (.tup [.int (t + 1),.int b]) u4=some (.tup [.int (t + 1),.int b]):=uS
 generalize upd B3 u4 (.tup [.int (t + 1),.int b])=B4 at s_B4 g_u4 ⊢
 refine ⟨_,rfl,_,rfl,lz 2 rfl,fun u5 hu5=>?_⟩
 have s_B5:=sN hu5 (.lst [.int t,.int b])
 have g_u5:upd B4 u5 (.lst [.int t,.int b]) u5=some (.lst [.int t,.int b]):=uS
 generalize upd B4 u5 (.lst [.int t,.int b])=B5 at s_B5 g_u5 ⊢
 refine ⟨lz 2 rfl,fun u6 hu6=>?_⟩
 have s_B6:=sN hu6 (.tup [.int 1,.int 1])
 have g_u6:upd B5 u6 (.tup [.int 1,.int 1]) u6=some (.tup [.int 1,.int 1]):=uS
 generalize upd B5 u6 (.tup [.int 1,.int 1])=B6 at s_B6 g_u6 ⊢
 refine ⟨_,rfl,lz 2 rfl,fun u7 hu7=>?_⟩
 have s_B7:=sN hu7 (.tup [.bl true,.int b])
 have g_u7:upd B6 u7 (.tup [.bl true,.int b]) u7=some (.tup [.bl true,.int b]):=uS
 generalize upd B6 u7 (.tup [.bl true,.int b])=B7 at s_B7 g_u7 ⊢
 refine ⟨_,rfl,_,rfl,lz 3 rfl,fun u8 hu8=>?_⟩
 have s_B8:=sN hu8 (.tup [.int t,.int b,.int 1])
 have g_u8:upd B7 u8 (.tup [.int t,.int b,.int 1]) u8=some (.tup [.int t,.int b,.int 1]):=uS
 generalize upd B7 u8 (.tup [.int t,.int b,.int 1])=B8 at s_B8 g_u8 ⊢
 refine ⟨lz 8 rfl,fun l hl=>?_⟩
 have s_B9:=sN hl (.lst [.ref u1,.ref u2,.ref u3,.ref u4,.ref u5,.ref u6,.ref u7,.ref u8])
 have g_l:upd B8 l (.lst [.ref u1,.ref u2,.ref u3,.ref u4,.ref u5,.ref u6,.ref u7,.ref u8]) l=some (.lst [.ref u1,.ref u2,.ref u3,.ref u4,.ref u5,.ref u6,.ref u7,.ref u8]):=uS
 generalize upd B8 l (.lst [.ref u1,.ref u2,.ref u3,.ref u4,.ref u5,.ref u6,.ref u7,.ref u8])=B9 at s_B9 g_l ⊢
 have s19:Same H1 B9:=s_B1.trans (s_B2.trans (s_B3.trans (s_B4.trans (s_B5.trans (s_B6.trans (s_B7.trans (s_B8.trans s_B9)))))))
 have g_u1:=(s_B2.trans (s_B3.trans (s_B4.trans (s_B5.trans (s_B6.trans (s_B7.trans (s_B8.trans s_B9))))))) _ _ g_u1
 have g_u2:=(s_B3.trans (s_B4.trans (s_B5.trans (s_B6.trans (s_B7.trans (s_B8.trans s_B9)))))) _ _ g_u2
 have g_u3:=(s_B4.trans (s_B5.trans (s_B6.trans (s_B7.trans (s_B8.trans s_B9))))) _ _ g_u3
 have g_u4:=(s_B5.trans (s_B6.trans (s_B7.trans (s_B8.trans s_B9)))) _ _ g_u4
 have g_u5:=(s_B6.trans (s_B7.trans (s_B8.trans s_B9))) _ _ g_u5
 have g_u6:=(s_B7.trans (s_B8.trans s_B9)) _ _ g_u6
 have g_u7:=(s_B8.trans s_B9) _ _ g_u7
 have g_u8:=(s_B9) _ _ g_u8
 have pf:=p1.same s19
 have all:∀ v∈[V.ref u1,.ref u2,.ref u3,.ref u4,.ref u5,.ref u6,.ref u7,.ref u8],∃ d,DP B9 p v d/\SO Z d:=by
  intro v hv
  have hP:∀ {c:Addr} {x y:Int},B9 c=some (.tup [.int x,.int y])->x.natAbs≤2 * Z + 10->y.natAbs≤2 * Z + 10->∃ d,DP B9 p (.ref c) d/\SO Z d:=fun h h1 h2=>⟨_,qaK pf h (.cons (.int _) (.cons (.int _) .nil)),qeY hS h1 h2⟩
  have kt:Kd 30 3 true (.int t):=(qbH (by omega) true).mono (by decide) (by decide)
  have kb:Kd 30 3 true (.int b):=(qbH (by omega) true).mono (by decide) (by decide)
  simp only [List.mem_cons,List.not_mem_nil,or_false] at hv
  rcases hv with rfl | rfl | rfl | rfl | rfl | rfl | rfl | rfl
  ·exact hP g_u1 (by omega) (by omega)
  ·exact hP g_u2 (by omega) (by omega)
  ·exact hP g_u3 (by omega) (by omega)
  ·exact hP g_u4 (by omega) (by omega)
  ·refine ⟨_,qb1 pf g_u5 (.cons (.int _) (.cons (.int _) .nil)),qk0 (kd_list (n:=30) (e:=3) (fun d hd=>?_) (by decide) (show 2 * (30 + 1)≤300 by decide)) rfl⟩
   simp only [List.mem_cons,List.not_mem_nil,or_false] at hd
   rcases hd with rfl | rfl
   ·exact kt
   ·exact kb
  ·exact hP g_u6 (by omega) (by omega)
  ·refine ⟨_,qaK pf g_u7 (.cons (.bl _) (.cons (.int _) .nil)),⟨qde (fun d hd=>?_) (show 2≤8 by decide),fun x y e=>?_⟩⟩
   ·simp only [List.mem_cons,List.not_mem_nil,or_false] at hd
    rcases hd with rfl | rfl
    ·exact (qd0 _ true).mono (by decide) (by decide)
    ·exact kb
   ·injection e with e; injection e with e1 _; cases e1
  ·refine ⟨_,qaK pf g_u8 (.cons (.int _) (.cons (.int _) (.cons (.int _) .nil))),⟨qde (fun d hd=>?_) (show 3≤8 by decide),fun x y e=>?_⟩⟩
   ·simp only [List.mem_cons,List.not_mem_nil,or_false] at hd
    rcases hd with rfl | rfl | rfl
    ·exact kt
    ·exact kb
    ·exact (qbH (by decide) true).mono (by decide) (by decide)
   ·injection e with e; injection e with _ e; injection e with _ e; cases e
 obtain ⟨vr,dr,hat2,dvr,sor⟩:=qg0 all w0 (by simpa using w8)
 refine ⟨_,rfl,l,_,_,_,rfl,rfl,SqL.of g_l,hat2,?_⟩
 exact k vr dr B9 dvr sor pf (x1.trans (Same.x s19))
end
theorem qhK {H:Hp}{p:Addr}{xs:List V}{ds:List PyData}(h:DPL H p xs ds)(lo hi:Option Int):∃ es,DPL H p (cutV xs lo hi) es/\(∀ e∈es,e∈ds):=by
 unfold cutV
 generalize HT.sIx xs.length 0 lo=i
 generalize HT.sIx xs.length xs.length hi - i=j
 have drp:∀ (i:Nat) {xs:List V} {ds:List PyData},DPL H p xs ds->DPL H p (xs.drop i) (ds.drop i):=by
  intro i
  induction i with
  | zero=>intro xs ds h; exact h
  | succ i ih =>
   intro xs ds h
   cases h with
   | nil=>exact .nil
   | cons r t=>exact ih t
 have tk:∀ (i:Nat) {xs:List V} {ds:List PyData},DPL H p xs ds->DPL H p (xs.take i) (ds.take i):=by
  intro i
  induction i with
  | zero=>intro xs ds h; exact .nil
  | succ i ih =>
   intro xs ds h
   cases h with
   | nil=>exact .nil
   | cons r t=>exact .cons r (ih t)
 exact ⟨(ds.drop i).take j,tk j (drp i h),fun e he=>List.mem_of_mem_drop (List.mem_of_mem_take he)⟩
theorem DPL.len {H:Hp}{p:Addr}{xs:List V}{ds:List PyData}(h:DPL H p xs ds):xs.length=ds.length:=qam.length h
theorem qhJ {H:Hp}{p:Addr}:∀ {xs:List V} {ds:List PyData},DPL H p xs ds->DPL H p xs.reverse ds.reverse
 | _,_,.nil => .nil
 | _,_,.cons h t=>by rw [List.reverse_cons,List.reverse_cons]; exact qbM (qhJ t) (.cons h .nil)
theorem qfk {H:Hp}{p:Addr}{v:V}{d:PyData}(hv:DP H p v d):∀ {xs:List V} {ds:List PyData} (j:Nat),DPL H p xs ds->DPL H p (xs.set j v) (ds.set j d)
 | _,_,_,.nil => .nil
 | _,_,0,.cons _ t => .cons hv t
 | _,_,j + 1,.cons h t => .cons h (qfk hv j t)
theorem qiW {xs:List V}{j:Nat}(h:j < xs.length):(cutV xs none (some (j:Int))).length + (cutV xs (some ((j:Int) + 1)) none).length + 1=xs.length:=by
 have c2:=qd5 (xs:=xs) (k:=j) (by omega)
 have c3:=qbT (xs:=xs) (k:=j + 1) (by omega)
 rw [show (((j + 1:Nat):Nat):Int)=(j:Int) + 1 by omega] at c3
 rw [c2,c3,List.length_take,List.length_drop]
 omega
theorem qgS {H:Hp}{p:Addr}{n:Nat}(hp:Pen H p n):∀ {xs:List V} {rs:Spd},Paired (RwAt H) xs rs->DPL H p xs (rs.map dRw)
 | _,_,.nil => .nil
 | _,_,.cons h t=>by
  obtain ⟨a,b,v2,rfl,h1,h2,c,rfl,h3⟩:=h
  exact .cons (qaK hp h1 (.cons (qaK hp h2 (qaW _ _ _)) (.cons (qaK hp h3 (.cons (.int _) (.cons (.int _) .nil))) .nil))) (qgS hp t)
theorem qjh {r:Rat}(h:0 < r):0 < r.num:=by
 rw [Rat.lt_iff] at h
 have e:(0:Int) * (r.den:Int) < r.num * 1:=h
 omega
theorem qkp {M Z:Nat}{rs:Spd}(h:InB M Z rs)(hM:M≤300){r:List Int × Rat}(hr:r∈rs):FO M (.tuple (r.1.map PyData.int)) :=
 qfj hM (by have:=h r hr; omega) (qfg (h r hr).2.2.1)
theorem qko {M Z:Nat}{rs:Spd}(h:InB M Z rs)(hZ:Z≤400){r:List Int × Rat}(hr:r∈rs):SO Z (.tuple [.int r.2.num,.int (r.2.den:Int)]):=by
 obtain ⟨_,_,_,h1,h2,h3⟩:=h r hr
 have:=qjh h1
 exact qeY hZ (by omega) (by omega)
theorem qlB {M Z:Nat}{rs:Spd}(h:InB M Z rs)(hM:M≤300)(hZ:Z≤400):∀ e∈rs.map dRw,ElB M Z e:=fun e he=>by
 obtain ⟨r,hr,rfl⟩:=List.mem_map.mp he
 exact qdC (qkp h hM hr) (qko h hZ hr)
theorem qiZ {x:Int}(h0:0≤x)(h1:x≤1000):Bt 10 x:=Bt.of_lt (show x.natAbs < 2 ^ 10 by have:(2:Nat) ^ 10=1024:=rfl; omega)
theorem qky {M S:Nat}{fs:List Int}(ha:FO M (.tuple (fs.map PyData.int))):ElB M S (.tuple (fs.map PyData.int)):=by
 refine ⟨ha.kd.mono (by decide) (by decide),fun gs e=>?_,fun x y e=>?_⟩
 ·match fs,e with
  | [],e=>cases e
  | _ :: _,e=>cases e
 ·match fs,e with
  | [],e=>cases e
  | [_],e=>cases e
  | _ :: _ :: _,e=>cases e
theorem qlL {M S:Nat}{a b:PyData}(ha:FO M a)(hb:SO S b):ElB M S (.list [a,b]):=by
 refine ⟨kd_list (n:=300) (e:=5) (fun d hd=>?_) (by decide) (show 2 * (300 + 1)≤1000 by decide),fun fs e=>(by cases e),fun x y e=>(by cases e)⟩
 simp only [List.mem_cons,List.not_mem_nil,or_false] at hd
 rcases hd with rfl | rfl
 ·exact ha.kd.mono (by decide) (by decide)
 ·exact hb.kd.mono (by decide) (by decide)
theorem qll {t b:Int}{Z:Nat}(t0:0 < t)(t1:t≤Z)(b0:0 < b)(b1:b≤Z):(lowF t (2 * b)).1.natAbs≤2 * Z + 10/\(lowF t (2 * b)).2.natAbs≤2 * Z + 10:=by
 have g:=qbo (a:=t) (b:=2 * b) (by omega)
 have h1:t / gI t (2 * b)≤t:=Int.ediv_le_self _ (by omega)
 have h2:2 * b / gI t (2 * b)≤2 * b:=Int.ediv_le_self _ (by omega)
 have h3:0≤t / gI t (2 * b):=Int.ediv_nonneg (by omega) (by omega)
 have h4:0≤2 * b / gI t (2 * b):=Int.ediv_nonneg (by omega) (by omega)
 unfold lowF
 dsimp only
 omega
section
variable {P:Program}{w:World}{K:PySem.W.Frag}{mg:Str->Option Value}{base:Heap}
def qfv:Sp:=fun vs H Q _=>∃ (p l:Addr) (rs:Spd) (M Z m:Nat),vs=[.ref p,.ref l]/\Pen H p m/\m < 50000/\SpAt H l rs/\rs≠[]/\rs.length≤6/\M≤300/\Z≤400/\InB M Z rs /\
 ∀ v d H',DP H' p v d->Out M Z (rs.length + 1) d->Pen H' p (m + 8)->qaS p H H'->Q v H'
theorem qha (T:Txt2 mg)(C_l_draw:Cal P w K mg base "_law_draw" ["_law_pen_here", "_law_many"] 1 qcX)(C_l_odd_load:Cal P w K mg base "_law_odd_load" ["_law_pen_here", "_law_load_here"] 2 qi8)(C_l_odd_share:Cal P w K mg base "_law_odd_share" ["_law_pen_here", "_law_one"] 2 qi7)(C_l_lowest:Cal P w K mg base "_law_lowest" ["_law_top", "_law_bottom"] 2 qcR)
  (F:FunAt K mg "_law_spoilt" ["_law_pen_here", "_law_spread_here"] s_l_spoilt):Cal P w K mg base "_law_spoilt" ["_law_pen_here", "_law_spread_here"] 3 qfv:=by
 have S:=qcZ
 refine F.cal qcZ (fun vs H Q E h=>?_) (fun f cdv A outer s H vs Q E hr h=>?_)
 ·obtain ⟨p,l,rs,M,Z,m,rfl,_⟩:=h; rfl
 obtain ⟨p,l,rs,M,Z,m,rfl,hp,hm,⟨xs,hl,rws⟩,rne,r6,hM,hZ,ib,k⟩:=h
 have hxl:=Paired.length rws
 have r1:1≤rs.length:=List.length_pos_iff.mpr rne
 refine ⟨_,(@pK _ _ _ _ _ (@pZ _ _ (2) _ _ _ _ (by exact S.nd) ⋯ ⋯ (@cc _ _ _ _ _ _ _ _ _ _ (by exact C_l_draw) (by exact (hr.mono (by decide))) (@pC _ _ _ _ _ (pv 0) (@pC _ _ _ _ _ pI pN ⋯) ⋯) ⋯ ⋯ ⋯ ⋯) ⋯ ⋯) (@pK _ _ _ _ _ (@pZ _ _ (3) _ _ _ _ (by exact S.nd) ⋯ ⋯ (@cc _ _ _ _ _ _ _ _ _ _ (by exact C_l_draw) (by exact (hr.mono (by decide))) (@pC _ _ _ _ _ (pv 0) (@pC _ _ _ _ _ (@qab _ _ _ _ _ _ _ _ _ qaj ⋯ (by exact T.z_len) (by exact qbd) (@pC _ _ _ _ _ (pv 1) pN ⋯) ⋯ ⋯ ⋯ ⋯) pN ⋯) ⋯) ⋯ ⋯ ⋯ ⋯) ⋯ ⋯) (@pK _ _ _ _ _ (@pZ _ _ (4) _ _ _ _ (by exact S.nd) ⋯ ⋯ (@cc _ _ _ _ _ _ _ _ _ _ (by exact C_l_draw) (by exact (hr.mono (by decide))) (@pC _ _ _ _ _ (pv 0) (@pC _ _ _ _ _ (@qab _ _ _ _ _ _ _ _ _ qaj ⋯ (by exact T.z_len) (by exact qbd) (@pC _ _ _ _ _ (pv 1) pN ⋯) ⋯ ⋯ ⋯ ⋯) pN ⋯) ⋯) ⋯ ⋯ ⋯ ⋯) ⋯ ⋯) (@pK _ _ _ _ _ (@qcG _ _ _ _ _ _ (@qaA _ _ _ _ _ _ _ qa0 (pv 1) (pv 3) (by exact (fun _ _=>rfl))) (@qbW _ _ _ _ _ _ ⋯ (@qai _ _ _ _ _ (@pG _ _ (6) _ (by exact S.nd) ⋯ ⋯ ⋯) (@qai _ _ _ _ _ (@pG _ _ (7) _ (by exact S.nd) ⋯ ⋯ ⋯) qaX ⋯) ⋯) ⋯ ⋯) ⋯ ⋯ ⋯) (@pK _ _ _ _ _ (@qa8 _ _ _ _ _ _ _ _ (@qaq _ _ _ _ _ _ _ _ qep (pv 2) pI (by exact (qal _))) (@pO _ _ _ (@qag _ _ _ _ (@pP _ _ _ _ _ _ _ _ qbx (@pP _ _ _ _ _ _ _ _ qbx (@qas _ _ _ _ _ _ _ _ _ _ qaR (pv 1) qaC (@qaz _ _ _ (pv 3))) (@qaN _ _ _ _ (@pC _ _ _ _ _ (@qar _ _ _ _ _ (@pC _ _ _ _ _ (@cc _ _ _ _ _ _ _ _ _ _ (by exact C_l_odd_load) (by exact (hr.mono (by decide))) (@pC _ _ _ _ _ (pv 0) (@pC _ _ _ _ _ (pv 6) pN ⋯) ⋯) ⋯ ⋯ ⋯ ⋯) (@pC _ _ _ _ _ (pv 7) pN ⋯) ⋯)) pN ⋯))) (@qas _ _ _ _ _ _ _ _ _ _ qaR (pv 1) (@qaz _ _ _ (@pP _ _ _ _ _ _ _ _ qaJ (pv 3) pI)) qaC)))) qau) (@pK _ _ _ _ _ (@qa8 _ _ _ _ _ _ _ _ (@qaq _ _ _ _ _ _ _ _ qep (pv 2) pI (by exact (qal _))) (@pO _ _ _ (@qag _ _ _ _ (@pP _ _ _ _ _ _ _ _ qbx (@pP _ _ _ _ _ _ _ _ qbx (@qas _ _ _ _ _ _ _ _ _ _ qaR (pv 1) qaC (@qaz _ _ _ (pv 3))) (@qaN _ _ _ _ (@pC _ _ _ _ _ (@qar _ _ _ _ _ (@pC _ _ _ _ _ (pv 6) (@pC _ _ _ _ _ (@cc _ _ _ _ _ _ _ _ _ _ (by exact C_l_odd_share) (by exact (hr.mono (by decide))) (@pC _ _ _ _ _ (pv 0) (@pC _ _ _ _ _ (pv 7) pN ⋯) ⋯) ⋯ ⋯ ⋯ ⋯) pN ⋯) ⋯)) pN ⋯))) (@qas _ _ _ _ _ _ _ _ _ _ qaR (pv 1) (@qaz _ _ _ (@pP _ _ _ _ _ _ _ _ qaJ (pv 3) pI)) qaC)))) qau) (@pK _ _ _ _ _ (@qa8 _ _ _ _ _ _ _ _ (@qaq _ _ _ _ _ _ _ _ qdq (pv 2) pI (by exact (qal _))) (@pK _ _ _ _ _ (@pZ _ _ (5) _ _ _ _ (by exact S.nd) ⋯ ⋯ (@qbk _ _ _ _ _ _ _ _ _ qcK ⋯ (by exact T.z_list) (by exact qdl) (@pC _ _ _ _ _ (pv 1) pN ⋯) ⋯ ⋯ ⋯ ⋯) ⋯ ⋯) (@pK _ _ _ _ _ (@qcG _ _ _ _ _ _ (@qar _ _ _ _ _ (@pC _ _ _ _ _ (@qar _ _ _ _ _ (@pC _ _ _ _ _ (@qaA _ _ _ _ _ _ _ qay (@qaA _ _ _ _ _ _ _ qa0 (pv 1) (pv 3) (by exact (fun _ _=>rfl))) pI (by exact (fun _ _=>rfl))) (@pC _ _ _ _ _ (@qaA _ _ _ _ _ _ _ qay (@qaA _ _ _ _ _ _ _ qa0 (pv 1) (pv 4) (by exact (fun _ _=>rfl))) pI (by exact (fun _ _=>rfl))) pN ⋯) ⋯)) (@pC _ _ _ _ _ (@qar _ _ _ _ _ (@pC _ _ _ _ _ (@qaA _ _ _ _ _ _ _ qay (@qaA _ _ _ _ _ _ _ qa0 (pv 1) (pv 4) (by exact (fun _ _=>rfl))) pI (by exact (fun _ _=>rfl))) (@pC _ _ _ _ _ (@qaA _ _ _ _ _ _ _ qay (@qaA _ _ _ _ _ _ _ qa0 (pv 1) (pv 3) (by exact (fun _ _=>rfl))) pI (by exact (fun _ _=>rfl))) pN ⋯) ⋯)) pN ⋯) ⋯)) (@qbW _ _ _ _ _ _ ⋯ (@qai _ _ _ _ _ (@qg3 _ _ _ _ _ _ _ (pv 5) (pv 3) set_list ⋯) (@qai _ _ _ _ _ (@qg3 _ _ _ _ _ _ _ (pv 5) (pv 4) set_list ⋯) qaX ⋯) ⋯) ⋯ ⋯) ⋯ ⋯ ⋯) (@pO _ _ _ (@qag _ _ _ _ (pv 5))))) qau) (@pK _ _ _ _ _ (@qa8 _ _ _ _ _ _ _ _ (@qaq _ _ _ _ _ _ _ _ qdq (pv 2) pI (by exact (qal _))) (@pO _ _ _ (@qag _ _ _ _ (@pP _ _ _ _ _ _ _ _ qbx (@pP _ _ _ _ _ _ _ _ qbx (@qas _ _ _ _ _ _ _ _ _ _ qaR (pv 1) qaC (@qaz _ _ _ (pv 3))) (@pP _ _ _ _ _ _ _ _ qg6 (@qaN _ _ _ _ (@pC _ _ _ _ _ (@qar _ _ _ _ _ (@pC _ _ _ _ _ (pv 6) (@pC _ _ _ _ _ (@cc _ _ _ _ _ _ _ _ _ _ (by exact C_l_lowest) (by exact (hr.mono (by decide))) (@pC _ _ _ _ _ (@qaA _ _ _ _ _ _ _ qay (pv 7) pI (by exact (fun _ _=>rfl))) (@pC _ _ _ _ _ (@pP _ _ _ _ _ _ _ _ qbX pI (@qaA _ _ _ _ _ _ _ qay (pv 7) pI (by exact (fun _ _=>rfl)))) pN ⋯) ⋯) ⋯ ⋯ ⋯ ⋯) pN ⋯) ⋯)) pN ⋯)) pI)) (@qas _ _ _ _ _ _ _ _ _ _ qaR (pv 1) (@qaz _ _ _ (@pP _ _ _ _ _ _ _ _ qaJ (pv 3) pI)) qaC)))) qau) (@pK _ _ _ _ _ (@pZ _ _ (5) _ _ _ _ (by exact S.nd) ⋯ ⋯ (@qaN _ _ _ _ (@pC _ _ _ _ _ (@qjW _ _ _ _ _ _ _ _ (pv 1)) (@pC _ _ _ _ _ (@pP _ _ _ _ _ _ _ _ qbx (@qas _ _ _ _ _ _ _ _ _ _ qaR (pv 1) qaC (@qaz _ _ _ (pv 3))) (@qas _ _ _ _ _ _ _ _ _ _ qaR (pv 1) (@qaz _ _ _ (@pP _ _ _ _ _ _ _ _ qaJ (pv 3) pI)) qaC)) (@pC _ _ _ _ _ (@pP _ _ _ _ _ _ _ _ qbx (@pP _ _ _ _ _ _ _ _ qbx (@qas _ _ _ _ _ _ _ _ _ _ qaR (pv 1) qaC (@qaz _ _ _ (pv 3))) (@qaN _ _ _ _ (@pC _ _ _ _ _ (@qar _ _ _ _ _ (@pC _ _ _ _ _ (pv 6) (@pC _ _ _ _ _ (pv 7) (@pC _ _ _ _ _ (pv 7) pN ⋯) ⋯) ⋯)) pN ⋯))) (@qas _ _ _ _ _ _ _ _ _ _ qaR (pv 1) (@qaz _ _ _ (@pP _ _ _ _ _ _ _ _ qaJ (pv 3) pI)) qaC)) pN ⋯) ⋯) ⋯)) ⋯ ⋯) (@pO _ _ _ (@qag _ _ _ _ (@qaA _ _ _ _ _ _ _ qa0 (@pP _ _ _ _ _ _ _ _ qbx (pv 5) (@qaN _ _ _ _ (@pC _ _ _ _ _ (@qbk _ _ _ _ _ _ _ _ _ qcj ⋯ (by exact T.z_tuple) (by exact qbp) (@pC _ _ _ _ _ (pv 1) pN ⋯) ⋯ ⋯ ⋯ ⋯) (@pC _ _ _ _ _ (@qaA _ _ _ _ _ _ _ qa0 (@qaN _ _ _ _ (@pC _ _ _ _ _ qjf (@pC _ _ _ _ _ qiw (@pC _ _ _ _ _ (@qaN _ _ _ _ pN) (@pC _ _ _ _ _ pI (@pC _ _ _ _ _ qbi (@pC _ _ _ _ _ qbg (@pC _ _ _ _ _ (@qaN _ _ _ _ (@pC _ _ _ _ _ (pv 6) pN ⋯)) (@pC _ _ _ _ _ (@qaN _ _ _ _ (@pC _ _ _ _ _ (@qaN _ _ _ _ (@pC _ _ _ _ _ (pv 6) (@pC _ _ _ _ _ (pv 7) pN ⋯) ⋯)) pN ⋯)) pN ⋯) ⋯) ⋯) ⋯) ⋯) ⋯) ⋯) ⋯)) (@cc _ _ _ _ _ _ _ _ _ _ (by exact C_l_draw) (by exact (hr.mono (by decide))) (@pC _ _ _ _ _ (pv 0) (@pC _ _ _ _ _ pI pN ⋯) ⋯) ⋯ ⋯ ⋯ ⋯) (by exact (fun _ _=>rfl))) pN ⋯) ⋯))) (@pP _ _ _ _ _ _ _ _ qen (pv 2) pI) (by exact (fun _ _=>rfl)))))))))))))),?_⟩
 refine ⟨_,rfl,p,_,m,rfl,hp,by omega,by decide,by decide,fun wy H1 w0 w12 p1 x1=>?_⟩
 refine gN_ ?_
 have hl1:=hp.keep x1 hl
 refine ⟨_,rfl,_,rfl,l,_,rfl,.inl (SqL.of hl1),p,_,_,rfl,p1,by omega,by omega,by omega,fun at_ H2 a0 a1 p2 x2=>?_⟩
 refine gN_ ?_
 have hl2:=p1.keep x2 hl1
 refine ⟨_,rfl,_,rfl,l,_,rfl,.inl (SqL.of hl2),p,_,_,rfl,p2,by omega,by omega,by omega,fun to_ H3 b0 b1 p3 x3=>?_⟩
 refine gN_ ?_
 have hl3:=p2.keep x3 hl2
 have x03:=(x1.trans x2).trans x3
 obtain ⟨kvp,dkp⟩:=hp.dk
 have rw3:Paired (RwAt H3) xs rs:=Paired.mapP rws fun _ _ z=>RwAt.imp (fun b ys e=>hp.keep x03 e) z
 clear rws hl hl1 hl2 x1 x2 x3 p1 p2
 have dl3:=qgS p3 rw3
 have els:=qlB ib hM hZ
 obtain ⟨j,rfl⟩:∃ j:Nat,at_=(j:Int):=⟨at_.toNat,by omega⟩
 obtain ⟨jt,rfl⟩:∃ jt:Nat,to_=(jt:Int):=⟨to_.toNat,by omega⟩
 have hj:j < xs.length:=by omega
 have hjt:jt < xs.length:=by omega
 obtain ⟨r,hri,e1,b1',v2,hx1,he1,hb1,c2,rfl,hc2⟩:=qan rw3 (List.getElem?_eq_getElem hj)
 obtain ⟨r',hri',e2,b2',v2',hx2,he2,hb2,c2',rfl,hc2'⟩:=qan rw3 (List.getElem?_eq_getElem hjt)
 have rm:=List.mem_of_getElem? hri
 have rm':=List.mem_of_getElem? hri'
 have hat:atI xs (j:Int)=some (.ref e1):=by rw [qbO (List.getElem?_eq_getElem hj),hx1]
 have hat':atI xs (jt:Int)=some (.ref e2):=by rw [qbO (List.getElem?_eq_getElem hjt),hx2]
 refine ⟨_,rfl,_,rfl,l,_,_,_,rfl,rfl,SqL.of hl3,hat,e1,_,rfl,SqT.of he1,rfl,_,_,rfl,_,_,rfl,rfl,?_⟩
 have foR:=qkp ib hM rm
 have soR:=qko ib hZ rm
 have foR':=qkp ib hM rm'
 have soR':=qko ib hZ rm'
 obtain ⟨rl1,rl6,rnn,rp,rnum,rden⟩:=ib r rm
 have rn0:=qjh rp
 have dpos:0 < (r.2.den:Int):=by have:=r.2.den_pos; omega
 have cl:=qiW hj
 obtain ⟨es1,dc1,em1⟩:=qhK dl3 none (some (j:Int))
 obtain ⟨es2,dc2,em2⟩:=qhK dl3 (some ((j:Int) + 1)) none
 have el1:es1.length + es2.length + 1=rs.length:=by
  have h1:=dc1.len
  have h2:=dc2.len
  omega
 have fin:∀ (q:Addr) (zs:List V) (ds:List PyData) (H':Hp) (mm:Nat),H' q=some (.lst zs)->DPL H' p zs ds->ds.length≤rs.length + 1->(∀ e∈ds,ElB M Z e)->Pen H' p mm->mm≤m + 8->qaS p H H'->Q (.ref q) H':=fun q zs ds H' mm hq hd hk he pp hmm xx=>k _ (.list ds) H' (qb1 pp hq hd) (qbn (by omega) hk he) (pp.mono hmm) xx
 have mid:∀ (q:Addr) (vs:List V) (ds:List PyData) (H':Hp) (mm:Nat),H' q=some (.lst ((cutV xs none (some (j:Int)) ++ vs) ++ cutV xs (some ((j:Int) + 1)) none))->DPL H' p vs ds->ds.length≤2->(∀ e∈ds,ElB M Z e)->Pen H' p mm->mm≤m + 8->qaS p H3 H'->Q (.ref q) H':=fun q vs ds H' mm hq hd hk he pp hmm xx=>by
  refine fin q _ ((es1 ++ ds) ++ es2) H' mm hq (qbM (qbM (dc1.x xx) hd) (dc2.x xx)) (by simp only [List.length_append]; omega) (fun e hm=>?_) pp hmm (x03.trans xx)
  rcases List.mem_append.mp hm with y | y
  ·rcases List.mem_append.mp y with y | y
   ·exact els e (em1 e y)
   ·exact he e y
  ·exact els e (em2 e y)
 have zx:xs.length≤6:=by omega
 have cz1:(cutV xs none (some (j:Int))).length≤6:=by omega
 have cz2:(cutV xs (some ((j:Int) + 1)) none).length≤6:=by omega
 refine ⟨_,rfl,_,_,rfl,rfl,_,rfl,ite2 (fun c3=>?_) (fun c3=>?_)⟩
 ·refine ⟨_,rfl,_,rfl,_,rfl,l,_,rfl,SqL.of hl3,fun q1 hq1=>?_⟩
  have s_B1:=sN hq1 (.lst (cutV xs none (some (j:Int))))
  have g_q1:upd H3 q1 (.lst (cutV xs none (some (j:Int)))) q1=some (.lst (cutV xs none (some (j:Int)))):=uS
  generalize upd H3 q1 (.lst (cutV xs none (some (j:Int))))=B1 at s_B1 g_q1 ⊢
  have pB1:=p3.same s_B1
  refine ⟨_,rfl,_,rfl,p,b1',r.1,M,_,rfl,pB1,by omega,s_B1 _ _ hb1,rl1,rl6,rnn,hM,fun v d H4 dv fo p4 x4=>?_⟩
  refine ⟨_,rfl,lz 2 rfl,fun t1 ht1=>?_⟩
  have s_B2:=sN ht1 (.tup [v,.ref c2])
  have g_t1:upd H4 t1 (.tup [v,.ref c2]) t1=some (.tup [v,.ref c2]):=uS
  generalize upd H4 t1 (.tup [v,.ref c2])=B2 at s_B2 g_t1 ⊢
  refine ⟨lz 1 rfl,fun q2 hq2=>?_⟩
  have s_B3:=sN hq2 (.lst [.ref t1])
  have g_q2:upd B2 q2 (.lst [.ref t1]) q2=some (.lst [.ref t1]):=uS
  generalize upd B2 q2 (.lst [.ref t1])=B3 at s_B3 g_q2 ⊢
  have s23:=s_B2.trans s_B3
  have g1:=s23 _ _ (pB1.keep x4 g_q1)
  refine ⟨q1,q2,_,_,rfl,rfl,g1,g_q2,by rw [sizeLine_eq]; show _ + 1≤_; omega,fun q3 hq3=>?_⟩
  have s_B4:=sN hq3 (.lst (cutV xs none (some (j:Int)) ++ [.ref t1]))
  have g_q3:upd B3 q3 (.lst (cutV xs none (some (j:Int)) ++ [.ref t1])) q3=some (.lst (cutV xs none (some (j:Int)) ++ [.ref t1])):=uS
  generalize upd B3 q3 (.lst (cutV xs none (some (j:Int)) ++ [.ref t1]))=B4 at s_B4 g_q3 ⊢
  have s24:=s23.trans s_B4
  have hl4:=s24 _ _ (pB1.keep x4 (s_B1 _ _ hl3))
  refine ⟨_,rfl,_,rfl,_,_,rfl,rfl,_,rfl,l,_,rfl,SqL.of hl4,fun q4 hq4=>?_⟩
  have s_B5:=sN hq4 (.lst (cutV xs (some ((j:Int) + 1)) none))
  have g_q4:upd B4 q4 (.lst (cutV xs (some ((j:Int) + 1)) none)) q4=some (.lst (cutV xs (some ((j:Int) + 1)) none)):=uS
  generalize upd B4 q4 (.lst (cutV xs (some ((j:Int) + 1)) none))=B5 at s_B5 g_q4 ⊢
  refine ⟨q3,q4,_,_,rfl,rfl,s_B5 _ _ g_q3,g_q4,by rw [sizeLine_eq,List.length_append]; show _ + 1 + _≤_; omega,fun q5 hq5=>?_⟩
  have s_B6:=sN hq5 (.lst ((cutV xs none (some (j:Int)) ++ [.ref t1]) ++ cutV xs (some ((j:Int) + 1)) none))
  have g_q5:upd B5 q5 (.lst ((cutV xs none (some (j:Int)) ++ [.ref t1]) ++ cutV xs (some ((j:Int) + 1)) none)) q5=some (.lst ((cutV xs none (some (j:Int)) ++ [.ref t1]) ++ cutV xs (some ((j:Int) + 1)) none)):=uS
  generalize upd B5 q5 (.lst ((cutV xs none (some (j:Int)) ++ [.ref t1]) ++ cutV xs (some ((j:Int) + 1)) none))=B6 at s_B6 g_q5 ⊢
  have s46:=s24.trans (s_B5.trans s_B6)
  have p6:=p4.same s46
  have x36:=((Same.x s_B1:qaS p H3 B1).trans x4).trans (Same.x s46)
  have gt:B6 t1=some (.tup [v,.ref c2]):=(s_B3.trans (s_B4.trans (s_B5.trans s_B6))) _ _ g_t1
  exact mid q5 [.ref t1] [.tuple [d,.tuple [.int r.2.num,.int (r.2.den:Int)]]] B6 _ g_q5 (.cons (qaK p6 gt (.cons (dv.s s46) (.cons ((qaK p3 hc2 (.cons (.int _) (.cons (.int _) .nil))).x x36) .nil))) .nil) (by show 1≤2; decide) (fun e he=>by rw [List.mem_singleton.mp he]; exact qdC fo soR) p6 (by omega) x36
 refine ⟨_,rfl,_,_,rfl,rfl,_,rfl,ite2 (fun c4=>?_) (fun c4=>?_)⟩
 ·refine ⟨_,rfl,_,rfl,_,rfl,l,_,rfl,SqL.of hl3,fun q1 hq1=>?_⟩
  have s_B1:=sN hq1 (.lst (cutV xs none (some (j:Int))))
  have g_q1:upd H3 q1 (.lst (cutV xs none (some (j:Int)))) q1=some (.lst (cutV xs none (some (j:Int)))):=uS
  generalize upd H3 q1 (.lst (cutV xs none (some (j:Int))))=B1 at s_B1 g_q1 ⊢
  have pB1:=p3.same s_B1
  refine ⟨_,rfl,_,rfl,_,rfl,p,c2,r.2.num,(r.2.den:Int),Z,_,rfl,pB1,by omega,s_B1 _ _ hc2,by omega,by omega,by omega,by omega,hZ,fun v d H4 dv so p4 x4=>?_⟩
  refine ⟨lz 2 rfl,fun t1 ht1=>?_⟩
  have s_B2:=sN ht1 (.tup [.ref b1',v])
  have g_t1:upd H4 t1 (.tup [.ref b1',v]) t1=some (.tup [.ref b1',v]):=uS
  generalize upd H4 t1 (.tup [.ref b1',v])=B2 at s_B2 g_t1 ⊢
  refine ⟨lz 1 rfl,fun q2 hq2=>?_⟩
  have s_B3:=sN hq2 (.lst [.ref t1])
  have g_q2:upd B2 q2 (.lst [.ref t1]) q2=some (.lst [.ref t1]):=uS
  generalize upd B2 q2 (.lst [.ref t1])=B3 at s_B3 g_q2 ⊢
  have s23:=s_B2.trans s_B3
  have g1:=s23 _ _ (pB1.keep x4 g_q1)
  refine ⟨q1,q2,_,_,rfl,rfl,g1,g_q2,by rw [sizeLine_eq]; show _ + 1≤_; omega,fun q3 hq3=>?_⟩
  have s_B4:=sN hq3 (.lst (cutV xs none (some (j:Int)) ++ [.ref t1]))
  have g_q3:upd B3 q3 (.lst (cutV xs none (some (j:Int)) ++ [.ref t1])) q3=some (.lst (cutV xs none (some (j:Int)) ++ [.ref t1])):=uS
  generalize upd B3 q3 (.lst (cutV xs none (some (j:Int)) ++ [.ref t1]))=B4 at s_B4 g_q3 ⊢
  have s24:=s23.trans s_B4
  have hl4:=s24 _ _ (pB1.keep x4 (s_B1 _ _ hl3))
  refine ⟨_,rfl,_,rfl,_,_,rfl,rfl,_,rfl,l,_,rfl,SqL.of hl4,fun q4 hq4=>?_⟩
  have s_B5:=sN hq4 (.lst (cutV xs (some ((j:Int) + 1)) none))
  have g_q4:upd B4 q4 (.lst (cutV xs (some ((j:Int) + 1)) none)) q4=some (.lst (cutV xs (some ((j:Int) + 1)) none)):=uS
  generalize upd B4 q4 (.lst (cutV xs (some ((j:Int) + 1)) none))=B5 at s_B5 g_q4 ⊢
  refine ⟨q3,q4,_,_,rfl,rfl,s_B5 _ _ g_q3,g_q4,by rw [sizeLine_eq,List.length_append]; show _ + 1 + _≤_; omega,fun q5 hq5=>?_⟩
  have s_B6:=sN hq5 (.lst ((cutV xs none (some (j:Int)) ++ [.ref t1]) ++ cutV xs (some ((j:Int) + 1)) none))
  have g_q5:upd B5 q5 (.lst ((cutV xs none (some (j:Int)) ++ [.ref t1]) ++ cutV xs (some ((j:Int) + 1)) none)) q5=some (.lst ((cutV xs none (some (j:Int)) ++ [.ref t1]) ++ cutV xs (some ((j:Int) + 1)) none)):=uS
  generalize upd B5 q5 (.lst ((cutV xs none (some (j:Int)) ++ [.ref t1]) ++ cutV xs (some ((j:Int) + 1)) none))=B6 at s_B6 g_q5 ⊢
  have s46:=s24.trans (s_B5.trans s_B6)
  have p6:=p4.same s46
  have x36:=((Same.x s_B1:qaS p H3 B1).trans x4).trans (Same.x s46)
  have gt:B6 t1=some (.tup [.ref b1',v]):=(s_B3.trans (s_B4.trans (s_B5.trans s_B6))) _ _ g_t1
  exact mid q5 [.ref t1] [.tuple [.tuple (r.1.map PyData.int),d]] B6 _ g_q5 (.cons (qaK p6 gt (.cons ((qaK p3 hb1 (qaW _ _ _)).x x36) (.cons (dv.s s46) .nil))) .nil) (by show 1≤2; decide) (fun e he=>by rw [List.mem_singleton.mp he]; exact qdC foR so) p6 (by omega) x36
 refine ⟨_,rfl,rfl,_,rfl,ite2 (fun c5=>?_) (fun c5=>?_)⟩
 ·refine ⟨_,rfl,l,_,rfl,.inl (SqL.of hl3),fun q1 hq1=>?_⟩
  have s_B1:=sN hq1 (.lst xs)
  have g_q1:upd H3 q1 (.lst xs) q1=some (.lst xs):=uS
  generalize upd H3 q1 (.lst xs)=B1 at s_B1 g_q1 ⊢
  refine gN_ ?_
  have L1:=s_B1 _ _ hl3
  have E1:=s_B1 _ _ he1
  have E2:=s_B1 _ _ he2
  refine ⟨_,rfl,_,rfl,l,_,_,_,rfl,rfl,SqL.of L1,hat,e1,_,_,_,rfl,rfl,SqT.of E1,rfl,_,rfl,_,rfl,l,_,_,_,rfl,rfl,SqL.of L1,hat',e2,_,_,_,rfl,rfl,SqT.of E2,rfl,lz 2 rfl,fun t1 ht1=>?_⟩
  have s_B2:=sN ht1 (.tup [.ref b1',.ref c2'])
  have g_t1:upd B1 t1 (.tup [.ref b1',.ref c2']) t1=some (.tup [.ref b1',.ref c2']):=uS
  generalize upd B1 t1 (.tup [.ref b1',.ref c2'])=B2 at s_B2 g_t1 ⊢
  have L2':=s_B2 _ _ L1
  have E1b:=s_B2 _ _ E1
  have E2b:=s_B2 _ _ E2
  refine ⟨_,rfl,_,rfl,l,_,_,_,rfl,rfl,SqL.of L2',hat',e2,_,_,_,rfl,rfl,SqT.of E2b,rfl,_,rfl,_,rfl,l,_,_,_,rfl,rfl,SqL.of L2',hat,e1,_,_,_,rfl,rfl,SqT.of E1b,rfl,lz 2 rfl,fun t2 ht2=>?_⟩
  have s_B3:=sN ht2 (.tup [.ref b2',.ref c2])
  have g_t2:upd B2 t2 (.tup [.ref b2',.ref c2]) t2=some (.tup [.ref b2',.ref c2]):=uS
  generalize upd B2 t2 (.tup [.ref b2',.ref c2])=B3 at s_B3 g_t2 ⊢
  refine ⟨lz 2 rfl,fun t3 ht3=>?_⟩
  have s_B4:=sN ht3 (.tup [.ref t1,.ref t2])
  have g_t3:upd B3 t3 (.tup [.ref t1,.ref t2]) t3=some (.tup [.ref t1,.ref t2]):=uS
  generalize upd B3 t3 (.tup [.ref t1,.ref t2])=B4 at s_B4 g_t3 ⊢
  have gq:=(s_B2.trans (s_B3.trans s_B4)) _ _ g_q1
  have ixj:ixN xs.length (j:Int)=some j:=by unfold ixN; rw [if_pos (by omega),if_pos (by omega)]; simp
  have ixt:ixN (xs.set j (.ref t1)).length (jt:Int)=some jt:=by unfold ixN; rw [List.length_set,if_pos (by omega),if_pos (by omega)]; simp
  refine ⟨t3,_,rfl,SqT.of g_t3,rfl,_,_,rfl,_,rfl,_,rfl,q1,xs,_,j,rfl,rfl,gq,ixj,_,_,rfl,_,rfl,_,rfl,q1,xs.set j (.ref t1),_,jt,rfl,rfl,uS,ixt,rfl,?_⟩
  rw [qgz]
  have s34:Same H3 B4:=s_B1.trans (s_B2.trans (s_B3.trans s_B4))
  have s35:Same H3 (upd B4 q1 (.lst ((xs.set j (.ref t1)).set jt (.ref t2)))):=qaL hq1 s34 _
  have kt:∀ {b:Addr} {ys:List V},B4 b=some (.tup ys)->upd B4 q1 (.lst ((xs.set j (.ref t1)).set jt (.ref t2))) b=some (.tup ys):=fun h=>qbJ gq h
  have gt1:=kt ((s_B3.trans s_B4) _ _ g_t1)
  have gt2:=kt (s_B4 _ _ g_t2)
  have gqf:upd B4 q1 (.lst ((xs.set j (.ref t1)).set jt (.ref t2))) q1=_:=uS
  have p5:=p3.same s35
  generalize upd B4 q1 (.lst ((xs.set j (.ref t1)).set jt (.ref t2)))=B5 at s35 gt1 gt2 gqf p5 ⊢
  have dS:∀ {c:Addr} {x y:Int},H3 c=some (.tup [.int x,.int y])->DP B5 p (.ref c) (.tuple [.int x,.int y]):=fun h=>qaK p5 (s35 _ _ h) (.cons (.int _) (.cons (.int _) .nil))
  have dL:∀ {c:Addr} {ms:List Int},H3 c=some (.tup (iv ms))->DP B5 p (.ref c) (.tuple (ms.map PyData.int)):=fun h=>qaK p5 (s35 _ _ h) (qaW _ _ _)
  refine ⟨_,rfl,fin q1 _ _ B5 _ gqf (qfk (qaK p5 gt2 (.cons (dL hb2) (.cons (dS hc2) .nil))) jt (qfk (qaK p5 gt1 (.cons (dL hb1) (.cons (dS hc2') .nil))) j (dl3.s s35))) (by rw [List.length_set,List.length_set,List.length_map]; omega) (fun e he=>?_) p5 (by omega) (x03.trans (Same.x s35))⟩
  rcases List.mem_or_eq_of_mem_set he with y | y
  ·rcases List.mem_or_eq_of_mem_set y with y | y
   ·exact els e y
   ·rw [y]; exact qdC foR soR'
  ·rw [y]; exact qdC foR' soR
 refine ⟨_,rfl,rfl,_,rfl,ite2 (fun c6=>?_) (fun c6=>?_)⟩
 ·refine ⟨_,rfl,_,rfl,_,rfl,l,_,rfl,SqL.of hl3,fun q1 hq1=>?_⟩
  have s_B1:=sN hq1 (.lst (cutV xs none (some (j:Int))))
  have g_q1:upd H3 q1 (.lst (cutV xs none (some (j:Int)))) q1=some (.lst (cutV xs none (some (j:Int)))):=uS
  generalize upd H3 q1 (.lst (cutV xs none (some (j:Int))))=B1 at s_B1 g_q1 ⊢
  refine ⟨_,rfl,_,rfl,c2,_,_,_,rfl,rfl,SqT.of (s_B1 _ _ hc2),rfl,_,rfl,c2,_,_,_,rfl,rfl,SqT.of (s_B1 _ _ hc2),rfl,_,_,rfl,rfl,.inl ⟨by decide,by decide⟩,?_⟩
  refine ⟨_,_,rfl,by omega,by omega,(qiZ (by omega) (by omega)).mono (by decide),fun v H4 s4 hv=>?_⟩
  have hv':PrAt H4 v (lowF r.2.num (2 * (r.2.den:Int))):=hv
  obtain ⟨hlo1,hlo2⟩:=qll (Z:=Z) rn0 rnum (b:=(r.2.den:Int)) dpos (by omega)
  generalize lowF r.2.num (2 * (r.2.den:Int))=lw at hv' hlo1 hlo2
  obtain ⟨pv,rfl,hpv⟩:=hv'
  refine ⟨lz 2 rfl,fun t1 ht1=>?_⟩
  have s_B2:=sN ht1 (.tup [.ref b1',.ref pv])
  have g_t1:upd H4 t1 (.tup [.ref b1',.ref pv]) t1=some (.tup [.ref b1',.ref pv]):=uS
  generalize upd H4 t1 (.tup [.ref b1',.ref pv])=B2 at s_B2 g_t1 ⊢
  refine ⟨lz 1 rfl,fun q2 hq2=>?_⟩
  have s_B3:=sN hq2 (.lst [.ref t1])
  have g_q2:upd B2 q2 (.lst [.ref t1]) q2=some (.lst [.ref t1]):=uS
  generalize upd B2 q2 (.lst [.ref t1])=B3 at s_B3 g_q2 ⊢
  refine ⟨q2,_,_,rfl,rfl,g_q2,by decide,by decide,lz 2 rfl,fun q3 hq3=>?_⟩
  rw [show (List.replicate (Int.toNat 2) [V.ref t1]).flatten=[V.ref t1,V.ref t1] from rfl]
  have s_B4:=sN hq3 (.lst [.ref t1,.ref t1])
  have g_q3:upd B3 q3 (.lst [.ref t1,.ref t1]) q3=some (.lst [.ref t1,.ref t1]):=uS
  generalize upd B3 q3 (.lst [.ref t1,.ref t1])=B4 at s_B4 g_q3 ⊢
  have s24:=s_B2.trans (s_B3.trans s_B4)
  have s14:=s4.trans s24
  have g1:=s14 _ _ g_q1
  refine ⟨q1,q3,_,_,rfl,rfl,g1,g_q3,by rw [sizeLine_eq]; show _ + 2≤_; omega,fun q4 hq4=>?_⟩
  have s_B5:=sN hq4 (.lst (cutV xs none (some (j:Int)) ++ [.ref t1,.ref t1]))
  have g_q4:upd B4 q4 (.lst (cutV xs none (some (j:Int)) ++ [.ref t1,.ref t1])) q4=some (.lst (cutV xs none (some (j:Int)) ++ [.ref t1,.ref t1])):=uS
  generalize upd B4 q4 (.lst (cutV xs none (some (j:Int)) ++ [.ref t1,.ref t1]))=B5 at s_B5 g_q4 ⊢
  have hl5:=(s_B1.trans (s14.trans s_B5)) _ _ hl3
  refine ⟨_,rfl,_,rfl,_,_,rfl,rfl,_,rfl,l,_,rfl,SqL.of hl5,fun q5 hq5=>?_⟩
  have s_B6:=sN hq5 (.lst (cutV xs (some ((j:Int) + 1)) none))
  have g_q5:upd B5 q5 (.lst (cutV xs (some ((j:Int) + 1)) none)) q5=some (.lst (cutV xs (some ((j:Int) + 1)) none)):=uS
  generalize upd B5 q5 (.lst (cutV xs (some ((j:Int) + 1)) none))=B6 at s_B6 g_q5 ⊢
  refine ⟨q4,q5,_,_,rfl,rfl,s_B6 _ _ g_q4,g_q5,by rw [sizeLine_eq,List.length_append]; show _ + 2 + _≤_; omega,fun q6 hq6=>?_⟩
  have s_B7:=sN hq6 (.lst ((cutV xs none (some (j:Int)) ++ [.ref t1,.ref t1]) ++ cutV xs (some ((j:Int) + 1)) none))
  have g_q6:upd B6 q6 (.lst ((cutV xs none (some (j:Int)) ++ [.ref t1,.ref t1]) ++ cutV xs (some ((j:Int) + 1)) none)) q6=some (.lst ((cutV xs none (some (j:Int)) ++ [.ref t1,.ref t1]) ++ cutV xs (some ((j:Int) + 1)) none)):=uS
  generalize upd B6 q6 (.lst ((cutV xs none (some (j:Int)) ++ [.ref t1,.ref t1]) ++ cutV xs (some ((j:Int) + 1)) none))=B7 at s_B7 g_q6 ⊢
  have s37:Same H3 B7:=s_B1.trans (s14.trans (s_B5.trans (s_B6.trans s_B7)))
  have p7:=p3.same s37
  have gt:B7 t1=some (.tup [.ref b1',.ref pv]):=(s_B3.trans (s_B4.trans (s_B5.trans (s_B6.trans s_B7)))) _ _ g_t1
  have gv:=(s24.trans (s_B5.trans (s_B6.trans s_B7))) _ _ hpv
  have dt:DP B7 p (.ref t1) (.tuple [.tuple (r.1.map PyData.int),.tuple [.int lw.1,.int lw.2]]):=qaK p7 gt (.cons ((qaK p3 hb1 (qaW _ _ _)).s s37) (.cons (qaK p7 gv (.cons (.int _) (.cons (.int _) .nil))) .nil))
  exact mid q6 [.ref t1,.ref t1] [_,_] B7 _ g_q6 (.cons dt (.cons dt .nil)) (by show 2≤2; decide) (fun e he=>by
   simp only [List.mem_cons,List.not_mem_nil,or_false,or_self] at he
   rw [he]; exact qdC foR (qeY hZ hlo1 hlo2)) p7 (by omega) (Same.x s37)
 have way:∃ wj:Nat,wy - 7=(wj:Int)/\wj < 5:=by
  have h3:¬ wy < 3:=by simpa using c3
  have h4:¬ wy < 5:=by simpa using c4
  have h5:¬ wy=5:=fun e=>c5 (decide_eq_true (by rw [e]))
  have h6:¬ wy=6:=fun e=>c6 (decide_eq_true (by rw [e]))
  exact ⟨(wy - 7).toNat,by omega,by omega⟩
 obtain ⟨wj,ewj,wj5⟩:=way
 refine ⟨_,rfl,l,xs,rfl,SqL.of hl3,fun q1 hq1=>?_⟩
 have s_B1:=sN hq1 (.lst xs.reverse)
 have g_q1:upd H3 q1 (.lst xs.reverse) q1=some (.lst xs.reverse):=uS
 generalize upd H3 q1 (.lst xs.reverse)=B1 at s_B1 g_q1 ⊢
 have L1:=s_B1 _ _ hl3
 refine ⟨_,rfl,_,rfl,_,rfl,l,_,rfl,SqL.of L1,fun q2 hq2=>?_⟩
 have s_B2:=sN hq2 (.lst (cutV xs none (some (j:Int))))
 have g_q2:upd B1 q2 (.lst (cutV xs none (some (j:Int)))) q2=some (.lst (cutV xs none (some (j:Int)))):=uS
 generalize upd B1 q2 (.lst (cutV xs none (some (j:Int))))=B2 at s_B2 g_q2 ⊢
 have L2':=s_B2 _ _ L1
 refine ⟨_,rfl,_,rfl,_,_,rfl,rfl,_,rfl,l,_,rfl,SqL.of L2',fun q3 hq3=>?_⟩
 have s_B3:=sN hq3 (.lst (cutV xs (some ((j:Int) + 1)) none))
 have g_q3:upd B2 q3 (.lst (cutV xs (some ((j:Int) + 1)) none)) q3=some (.lst (cutV xs (some ((j:Int) + 1)) none)):=uS
 generalize upd B2 q3 (.lst (cutV xs (some ((j:Int) + 1)) none))=B3 at s_B3 g_q3 ⊢
 refine ⟨q2,q3,_,_,rfl,rfl,s_B3 _ _ g_q2,g_q3,by rw [sizeLine_eq]; omega,fun q4 hq4=>?_⟩
 have s_B4:=sN hq4 (.lst (cutV xs none (some (j:Int)) ++ cutV xs (some ((j:Int) + 1)) none))
 have g_q4:upd B3 q4 (.lst (cutV xs none (some (j:Int)) ++ cutV xs (some ((j:Int) + 1)) none)) q4=some (.lst (cutV xs none (some (j:Int)) ++ cutV xs (some ((j:Int) + 1)) none)):=uS
 generalize upd B3 q4 (.lst (cutV xs none (some (j:Int)) ++ cutV xs (some ((j:Int) + 1)) none))=B4 at s_B4 g_q4 ⊢
 have L4:=(s_B3.trans s_B4) _ _ L2'
 refine ⟨_,rfl,_,rfl,_,rfl,l,_,rfl,SqL.of L4,fun q5 hq5=>?_⟩
 have s_B5:=sN hq5 (.lst (cutV xs none (some (j:Int))))
 have g_q5:upd B4 q5 (.lst (cutV xs none (some (j:Int)))) q5=some (.lst (cutV xs none (some (j:Int)))):=uS
 generalize upd B4 q5 (.lst (cutV xs none (some (j:Int))))=B5 at s_B5 g_q5 ⊢
 refine ⟨_,rfl,_,rfl,_,rfl,lz 3 rfl,fun t1 ht1=>?_⟩
 have s_B6:=sN ht1 (.tup [.ref b1',.ref c2,.ref c2])
 have g_t1:upd B5 t1 (.tup [.ref b1',.ref c2,.ref c2]) t1=some (.tup [.ref b1',.ref c2,.ref c2]):=uS
 generalize upd B5 t1 (.tup [.ref b1',.ref c2,.ref c2])=B6 at s_B6 g_t1 ⊢
 refine ⟨lz 1 rfl,fun q6 hq6=>?_⟩
 have s_B7:=sN hq6 (.lst [.ref t1])
 have g_q6:upd B6 q6 (.lst [.ref t1]) q6=some (.lst [.ref t1]):=uS
 generalize upd B6 q6 (.lst [.ref t1])=B7 at s_B7 g_q6 ⊢
 refine ⟨q5,q6,_,_,rfl,rfl,(s_B6.trans s_B7) _ _ g_q5,g_q6,by rw [sizeLine_eq]; show _ + 1≤_; omega,fun q7 hq7=>?_⟩
 have s_B8:=sN hq7 (.lst (cutV xs none (some (j:Int)) ++ [.ref t1]))
 have g_q7:upd B7 q7 (.lst (cutV xs none (some (j:Int)) ++ [.ref t1])) q7=some (.lst (cutV xs none (some (j:Int)) ++ [.ref t1])):=uS
 generalize upd B7 q7 (.lst (cutV xs none (some (j:Int)) ++ [.ref t1]))=B8 at s_B8 g_q7 ⊢
 have L8:=(s_B5.trans (s_B6.trans (s_B7.trans s_B8))) _ _ L4
 refine ⟨_,rfl,_,rfl,_,_,rfl,rfl,_,rfl,l,_,rfl,SqL.of L8,fun q8 hq8=>?_⟩
 have s_B9:=sN hq8 (.lst (cutV xs (some ((j:Int) + 1)) none))
 have g_q8:upd B8 q8 (.lst (cutV xs (some ((j:Int) + 1)) none)) q8=some (.lst (cutV xs (some ((j:Int) + 1)) none)):=uS
 generalize upd B8 q8 (.lst (cutV xs (some ((j:Int) + 1)) none))=B9 at s_B9 g_q8 ⊢
 refine ⟨q7,q8,_,_,rfl,rfl,s_B9 _ _ g_q7,g_q8,by rw [sizeLine_eq,List.length_append]; show _ + 1 + _≤_; omega,fun q9 hq9=>?_⟩
 have s_Ba:=sN hq9 (.lst ((cutV xs none (some (j:Int)) ++ [.ref t1]) ++ cutV xs (some ((j:Int) + 1)) none))
 have g_q9:upd B9 q9 (.lst ((cutV xs none (some (j:Int)) ++ [.ref t1]) ++ cutV xs (some ((j:Int) + 1)) none)) q9=some (.lst ((cutV xs none (some (j:Int)) ++ [.ref t1]) ++ cutV xs (some ((j:Int) + 1)) none)):=uS
 generalize upd B9 q9 (.lst ((cutV xs none (some (j:Int)) ++ [.ref t1]) ++ cutV xs (some ((j:Int) + 1)) none))=Ba at s_Ba g_q9 ⊢
 refine ⟨lz 3 rfl,fun sl hsl=>?_⟩
 have s_Bb:=sN hsl (.lst [.ref q1,.ref q4,.ref q9])
 have g_sl:upd Ba sl (.lst [.ref q1,.ref q4,.ref q9]) sl=some (.lst [.ref q1,.ref q4,.ref q9]):=uS
 generalize upd Ba sl (.lst [.ref q1,.ref q4,.ref q9])=Bb at s_Bb g_sl ⊢
 have s3b:Same H3 Bb:=s_B1.trans (s_B2.trans (s_B3.trans (s_B4.trans (s_B5.trans (s_B6.trans (s_B7.trans (s_B8.trans (s_B9.trans (s_Ba.trans s_Bb)))))))))
 have g_q1:=(s_B2.trans (s_B3.trans (s_B4.trans (s_B5.trans (s_B6.trans (s_B7.trans (s_B8.trans (s_B9.trans (s_Ba.trans s_Bb))))))))) _ _ g_q1
 have g_q4:=(s_B5.trans (s_B6.trans (s_B7.trans (s_B8.trans (s_B9.trans (s_Ba.trans s_Bb)))))) _ _ g_q4
 have g_q9:=(s_Bb) _ _ g_q9
 have g_t1:=(s_B7.trans (s_B8.trans (s_B9.trans (s_Ba.trans s_Bb)))) _ _ g_t1
 refine gN_ ?_
 have Lb:=s3b _ _ hl3
 refine ⟨_,rfl,_,rfl,l,_,rfl,.inl ⟨SqL.of Lb,fun t2 ht2=>?_⟩⟩
 have s_C1:=sN ht2 (.tup xs)
 have g_t2:upd Bb t2 (.tup xs) t2=some (.tup xs):=uS
 generalize upd Bb t2 (.tup xs)=C1 at s_C1 g_t2 ⊢
 refine fun o1 ho1=>?_
 have pb:=p3.same s3b
 have pc1:=pb.same s_C1
 have pn:p≠o1:=fun e=>by
  obtain ⟨kvs,z⟩:=pc1.dk
  rw [e,ho1] at z; cases z
 have s_C2:=sN ho1 (.dK [])
 have g_o1:upd C1 o1 (.dK []) o1=some (.dK []):=uS
 generalize upd C1 o1 (.dK [])=C2 at s_C2 g_o1 ⊢
 refine ⟨(by show 0≤sizeLine; decide),fun o2 ho2=>?_⟩
 have s_C3:=sN ho2 (.lst [])
 have g_o2:upd C2 o2 (.lst []) o2=some (.lst []):=uS
 generalize upd C2 o2 (.lst [])=C3 at s_C3 g_o2 ⊢
 refine ⟨_,rfl,lz 1 rfl,fun o3 ho3=>?_⟩
 have s_C4:=sN ho3 (.lst [.ref b1'])
 have g_o3:upd C3 o3 (.lst [.ref b1']) o3=some (.lst [.ref b1']):=uS
 generalize upd C3 o3 (.lst [.ref b1'])=C4 at s_C4 g_o3 ⊢
 refine ⟨_,rfl,_,rfl,lz 2 rfl,fun o4 ho4=>?_⟩
 have s_C5:=sN ho4 (.lst [.ref b1',.ref c2])
 have g_o4:upd C4 o4 (.lst [.ref b1',.ref c2]) o4=some (.lst [.ref b1',.ref c2]):=uS
 generalize upd C4 o4 (.lst [.ref b1',.ref c2])=C5 at s_C5 g_o4 ⊢
 refine ⟨lz 1 rfl,fun o5 ho5=>?_⟩
 have s_C6:=sN ho5 (.lst [.ref o4])
 have g_o5:upd C5 o5 (.lst [.ref o4]) o5=some (.lst [.ref o4]):=uS
 generalize upd C5 o5 (.lst [.ref o4])=C6 at s_C6 g_o5 ⊢
 refine ⟨lz 8 rfl,fun ol hol=>?_⟩
 have s_C7:=sN hol (.lst [.non,.ref o1,.ref o2,.int 7,.bl true,.str "",.ref o3,.ref o5])
 have g_ol:upd C6 ol (.lst [.non,.ref o1,.ref o2,.int 7,.bl true,.str "",.ref o3,.ref o5]) ol=some (.lst [.non,.ref o1,.ref o2,.int 7,.bl true,.str "",.ref o3,.ref o5]):=uS
 generalize upd C6 ol (.lst [.non,.ref o1,.ref o2,.int 7,.bl true,.str "",.ref o3,.ref o5])=C7 at s_C7 g_ol ⊢
 have s17:Same C1 C7:=s_C2.trans (s_C3.trans (s_C4.trans (s_C5.trans (s_C6.trans s_C7))))
 have g_o1:=(s_C3.trans (s_C4.trans (s_C5.trans (s_C6.trans s_C7)))) _ _ g_o1
 have g_o2:=(s_C4.trans (s_C5.trans (s_C6.trans s_C7))) _ _ g_o2
 have g_o3:=(s_C5.trans (s_C6.trans s_C7)) _ _ g_o3
 have g_o4:=(s_C6.trans s_C7) _ _ g_o4
 have g_o5:=(s_C7) _ _ g_o5
 have pc7:=pc1.same s17
 have s37:=(s3b.trans s_C1).trans s17
 have dLd:DP C7 p (.ref b1') (.tuple (r.1.map PyData.int)):=(qaK p3 hb1 (qaW _ _ _)).s s37
 have dSh:DP C7 p (.ref c2) (.tuple [.int r.2.num,.int (r.2.den:Int)]):=(qaK p3 hc2 (.cons (.int _) (.cons (.int _) .nil))).s s37
 have oddAll:∀ v∈[V.non,.ref o1,.ref o2,.int 7,.bl true,.str "",.ref o3,.ref o5],∃ d,DP C7 p v d/\Out M Z (rs.length + 1) d:=by
  intro v hv
  simp only [List.mem_cons,List.not_mem_nil,or_false] at hv
  have k1:∀ {d:PyData} {b:Bool},Kd 10 1 b d->Kd 20000 8 b d:=fun h=>h.mono (by decide) (by decide)
  rcases hv with rfl | rfl | rfl | rfl | rfl | rfl | rfl | rfl
  ·exact ⟨_,.non,qcs (k1 (qfe true)) rfl⟩
  ·exact ⟨_,.dict (ps:=[]) (by rw [qdR (S:=fun x=>x≠p) (a:=o1) (Ne.symm pn)]; exact g_o1) .nil .nil,qcs (k1 qiL) rfl⟩
  ·exact ⟨_,qb1 pc7 g_o2 .nil,qbn (by omega) (by simp) (by simp)⟩
  ·exact ⟨_,.int _,qcs (k1 (qbH (by decide) true)) rfl⟩
  ·exact ⟨_,.bl _,qcs (k1 (qd0 _ true)) rfl⟩
  ·exact ⟨_,.str _,qcs (k1 (qhq (x := "") (by decide) true)) rfl⟩
  ·refine ⟨_,qb1 pc7 g_o3 (.cons dLd .nil),qbn (by omega) (by show 1≤_; omega) fun e he=>?_⟩
   rw [List.mem_singleton.mp he]
   exact qky foR
  ·refine ⟨_,qb1 pc7 g_o5 (.cons (qb1 pc7 g_o4 (.cons dLd (.cons dSh .nil))) .nil),qbn (by omega) (by show 1≤_; omega) fun e he=>?_⟩
   rw [List.mem_singleton.mp he]
   exact qlL foR soR
 refine ⟨_,rfl,p,_,_,rfl,pc7,by omega,by decide,by decide,fun d8 H8 d80 d81 p8 x8=>?_⟩
 obtain ⟨vo,od,hoat,dvo,outo⟩:=qg0 oddAll d80 (by simpa using d81)
 refine ⟨ol,_,_,_,rfl,rfl,SqL.of (pc7.keep x8 g_ol),hoat,lz 2 rfl,fun l2 hl2=>?_⟩
 have s1b:Same Bb C7:=s_C1.trans s17
 have x3:qaS p H3 H8:=(Same.x (s3b.trans s1b)).trans x8
 have kq:∀ {b:Addr} {ys:List V},Bb b=some (.lst ys)->H8 b=some (.lst ys):=fun h=>pc7.keep x8 (s1b _ _ h)
 have ktp:∀ {b:Addr} {ys:List V},Bb b=some (.tup ys)->H8 b=some (.tup ys):=fun h=>pc7.keep x8 (s1b _ _ h)
 have G1:=kq g_q1
 have G4:=kq g_q4
 have G9:=kq g_q9
 have Gt1:=ktp g_t1
 have Gs:=kq g_sl
 have Gt2:=pc7.keep x8 (s17 _ _ g_t2)
 have dvo8:=dvo.x x8
 clear g_q1 g_q4 g_q9 g_t1 g_sl g_t2 g_o1 g_o2 g_o3 g_o4 g_o5 g_ol oddAll hoat dvo
 have s_D1:=sN hl2 (.lst [.ref t2,vo])
 have g_l2:upd H8 l2 (.lst [.ref t2,vo]) l2=some (.lst [.ref t2,vo]):=uS
 generalize upd H8 l2 (.lst [.ref t2,vo])=D1 at s_D1 g_l2 ⊢
 refine ⟨sl,l2,_,_,rfl,rfl,s_D1 _ _ Gs,g_l2,lz 5 rfl,fun l3 hl3=>?_⟩
 have s_D2:=sN hl3 (.lst ([.ref q1,.ref q4,.ref q9] ++ [.ref t2,vo]))
 have g_l3:upd D1 l3 (.lst ([.ref q1,.ref q4,.ref q9] ++ [.ref t2,vo])) l3=some (.lst ([.ref q1,.ref q4,.ref q9] ++ [.ref t2,vo])):=uS
 generalize upd D1 l3 (.lst ([.ref q1,.ref q4,.ref q9] ++ [.ref t2,vo]))=D2 at s_D2 g_l3 ⊢
 have sD:=s_D1.trans s_D2
 have pd:=p8.same sD
 have x3d:=x3.trans (Same.x sD)
 have dld:=dl3.x x3d
 have all:∀ v∈[V.ref q1,.ref q4,.ref q9] ++ [V.ref t2,vo],∃ d,DP D2 p v d/\Out M Z (rs.length + 1) d:=by
  intro v hv
  simp only [List.cons_append,List.nil_append,List.mem_cons,List.not_mem_nil,or_false] at hv
  rcases hv with rfl | rfl | rfl | rfl | rfl
  ·exact ⟨_,qb1 pd (sD _ _ G1) (qhJ dld),qbn (by omega) (by rw [List.length_reverse,List.length_map]; omega) fun e he=>els e (List.mem_reverse.mp he)⟩
  ·refine ⟨_,qb1 pd (sD _ _ G4) (qbM (dc1.x x3d) (dc2.x x3d)),qbn (by omega) (by rw [List.length_append]; omega) fun e he=>?_⟩
   rcases List.mem_append.mp he with y | y
   ·exact els e (em1 e y)
   ·exact els e (em2 e y)
  ·refine ⟨_,qb1 pd (sD _ _ G9) (qbM (qbM (dc1.x x3d) (.cons (qaK pd (sD _ _ Gt1) (.cons ((qaK p3 hb1 (qaW _ _ _)).x x3d) (.cons ((qaK p3 hc2 (.cons (.int _) (.cons (.int _) .nil))).x x3d) (.cons ((qaK p3 hc2 (.cons (.int _) (.cons (.int _) .nil))).x x3d) .nil)))) .nil)) (dc2.x x3d)),qbn (by omega) (by simp only [List.length_append,List.length_cons,List.length_nil]; omega) fun e he=>?_⟩
   rcases List.mem_append.mp he with y | y
   ·rcases List.mem_append.mp y with y | y
    ·exact els e (em1 e y)
    ·rw [List.mem_singleton.mp y]; exact qkx foR soR soR
   ·exact els e (em2 e y)
  ·exact ⟨_,qaK pd (sD _ _ Gt2) dld,qcs (b:=true) (qew (n:=1000) (e:=7) (fun d hd=>(els d hd).kd.mono (by decide) (by decide)) (by decide) (by rw [List.length_map]; omega)) rfl⟩
  ·exact ⟨od,dvo8.s sD,outo⟩
 obtain ⟨vr,dr,hat2,dvr,outr⟩:=qg0 all (i:=wy - 7) (by omega) (by rw [ewj]; show (wj:Int) < 5; omega)
 refine ⟨_,rfl,_,_,rfl,rfl,l3,_,_,_,rfl,rfl,SqL.of g_l3,hat2,?_⟩
 exact k vr dr D2 dvr outr (pd.mono (by omega)) (x03.trans x3d)
end
theorem qiV (a b:Int){S:Int}(hS:0 < S):Rat.divInt a S + Rat.divInt b S=Rat.divInt (a + b) S:=by
 rw [Rat.divInt_add_divInt _ _ (by omega) (by omega),<- Int.add_mul,Rat.divInt_mul_right (by omega)]
def srt (m:Mp):Mp:=(rise (qah m)).map fun k=>(k,getM m k)
theorem qjB (m:Mp)(W:Int):sprF m W=(srt m).map fun p=>(p.1,Rat.divInt p.2 W):=by unfold sprF srt; rw [List.map_map]; rfl
theorem qgK (m:Mp):(srt m).length=m.length:=by unfold srt; rw [List.length_map,(qaI _).length_eq]; simp [qah]
def dW (W:Int)(p:List Int × Int):PyData:=dRw (p.1,Rat.divInt p.2 W)
def wsum (ws:Mp):Int:=(qav ws).sum
theorem qfi {W:Int}(hW:0 < W):∀ (ws:Mp) (a:Int),(ws.map fun p=>Rat.divInt p.2 W).foldl (· + ·) (Rat.divInt a W)=Rat.divInt (a + wsum ws) W
 | [],a=>by simp [wsum,qav]
 | p :: ws,a=>by
  rw [List.map_cons,List.foldl_cons,qiV _ _ hW,qfi hW ws]
  congr 1
  show a + p.2 + wsum ws=a + (p.2 + wsum ws)
  omega
theorem qk7 (W:Int)(p:List Int × Int):qD (sndD (dW W p))=Rat.divInt p.2 W:=by
 have h1:(1:Int)≤((Rat.divInt p.2 W).den:Int):=by have:=(Rat.divInt p.2 W).den_pos; omega
 show (if (1:Int)≤((Rat.divInt p.2 W).den:Int) then Rat.divInt (Rat.divInt p.2 W).num ((Rat.divInt p.2 W).den:Int) else 0)=_
 rw [if_pos h1,Rat.num_divInt_den]
theorem qjM (W:Int)(ws:Mp):qsD (ws.map (dW W))=ws.map fun p=>Rat.divInt p.2 W:=by
 unfold qsD
 rw [List.map_map]
 exact List.map_congr_left fun p _=>qk7 W p
theorem qfq (W:Int):Rat.divInt 0 W=0:=Rat.zero_divInt W
theorem qlI {W:Int}(hW:0 < W)(ws:Mp):(qsD (ws.map (dW W))).foldl (· + ·) 0=Rat.divInt (wsum ws) W:=by
 rw [qjM]
 have:=qfi hW ws 0
 rw [qfq,Int.zero_add] at this
 exact this
theorem qkA {a W:Int}(hW:0 < W)(h:Rat.divInt a W=1):a=W:=by
 have h2:Rat.divInt a W=Rat.divInt W W:=by rw [h,Rat.divInt_self' (by omega)]
 have:=(Rat.divInt_eq_divInt_iff (by omega) (by omega)).mp h2
 exact Int.eq_of_mul_eq_mul_right (by omega) this
theorem qcn {W:Int}(hW:0 < W){ws:Mp}(h:wsum ws≠W):qaE (.list (ws.map (dW W)))=false:=by
 cases e:qaE (.list (ws.map (dW W))) with
 | false=>rfl
 | true =>
  simp only [qaE,Bool.and_eq_true] at e
  have e1:=of_decide_eq_true e.2.2.2.2
  rw [qlI hW] at e1
  exact absurd (qkA hW e1) h
theorem bt20 {x:Int}(h0:0≤x)(h1:x≤2000):Bt 11 x:=Bt.of_lt (show x.natAbs < 2 ^ 11 by have:(2:Nat) ^ 11=2048:=rfl; omega)
theorem qbt (p:List Int × Int)(ws:Mp):wsum (p :: ws)=p.2 + wsum ws:=rfl
theorem qb6 (a b:Mp):wsum (a ++ b)=wsum a + wsum b:=by unfold wsum qav; rw [List.map_append,List.sum_append]
theorem qcm {ws:Mp}(h:∀ p∈ws,0 < p.2):0≤wsum ws:=by
 induction ws with
 | nil=>simp [wsum,qav]
 | cons p ws ih=>have:=h p List.mem_cons_self; have:=ih fun q hq=>h q (List.mem_cons_of_mem _ hq); rw [qbt]; omega
theorem qgt {ws:Mp}(h:∀ p∈ws,0 < p.2)(i:Nat):wsum (ws.take i)≤wsum ws:=by
 have e:=qb6 (ws.take i) (ws.drop i)
 rw [List.take_append_drop] at e
 have:=qcm (ws:=ws.drop i) fun p hp=>h p (List.mem_of_mem_drop hp)
 omega
theorem qfr {ws:Mp}(h:∀ p∈ws,0 < p.2){p:List Int × Int}(hp:p∈ws):p.2≤wsum ws:=by
 induction ws with
 | nil=>cases hp
 | cons q ws ih =>
  rw [qbt]
  have h0:=h q List.mem_cons_self
  have h1:=qcm (ws:=ws) fun r hr=>h r (List.mem_cons_of_mem _ hr)
  rcases List.mem_cons.mp hp with rfl | z
  ·omega
  ·have:=ih (fun r hr=>h r (List.mem_cons_of_mem _ hr)) z; omega
theorem qjl {W:Int}(hW:0 < W)(hW1:W≤1000){ws:Mp}(len:ws.length≤300)(ln:∀ p∈ws,p.1.length≤1000)(pos:∀ p∈ws,0 < p.2)(hs:wsum ws≤2000):FitV (ws.map (dW W)):=by
 refine ⟨by rw [List.length_map]; exact len,fun e he fs efs=>?_,fun q hq=>?_,fun i=>?_⟩
 ·obtain ⟨p,hp,rfl⟩:=List.mem_map.mp he
  have:PyData.tuple (p.1.map PyData.int) = .tuple fs:=efs
  cases this
  rw [List.length_map]; exact ln p hp
 ·rw [qjM] at hq
  obtain ⟨p,hp,rfl⟩:=List.mem_map.mp hq
  have h0:=pos p hp
  have h1:=qfr pos hp
  exact (SB.divInt (bt20 (by omega) (by omega)) (bt20 (by omega) (by omega)) hW).mono (by decide)
 ·rw [qjM,<- List.map_take]
  have:=qfi hW (ws.take i) 0
  rw [qfq,Int.zero_add] at this
  rw [this]
  have h0:=qcm (ws:=ws.take i) fun p hp=>pos p (List.mem_of_mem_take hp)
  have h1:=qgt pos i
  exact (SB.divInt (bt20 h0 (by omega)) (bt20 (by omega) (by omega)) hW).mono (by decide)
theorem qki {ns:List Int}(h1:1≤ns.length)(h6:ns.length≤6)(hb:∀ x∈ns,0≤x)(hf:ns.Pairwise (· ≥ ·)):qaD (.tuple (ns.map PyData.int))=true:=by
 have e1:(ns.map PyData.int).all nnD=true:=List.all_eq_true.mpr fun d hd=>by
  obtain ⟨x,hx,rfl⟩:=List.mem_map.mp hd
  exact decide_eq_true (hb x hx)
 have e2:(ns.map PyData.int).map numD=ns:=by rw [List.map_map]; exact List.map_id' ns
 have e3:qeC ns=true:=(qd2 ns).mpr fun i hi=>by
  rw [qaa hi,qaa (by omega)]
  exact List.pairwise_iff_getElem.mp hf i (i + 1) (by omega) hi (by omega)
 simp only [qaD,List.length_map,e1,e2,e3,decide_eq_true h1,decide_eq_true h6,Bool.and_self]
theorem qiC (W:Int)(p:List Int × Int):qhg (fstD (dW W p))=p.1:=by
 show (p.1.map PyData.int).map numD=p.1
 rw [List.map_map]
 exact List.map_id' p.1
theorem ls_ws (W:Int)(ws:Mp):lsD (ws.map (dW W))=qah ws:=by
 unfold lsD qah
 rw [List.map_map]
 exact List.map_congr_left fun p _=>qiC W p
theorem qdx {n:Nat}{b:Int}:∀ {ls:List (List Int)},qdp ls->ls.Nodup->(∀ l∈ls,l.length=n/\l.sum=b)->adjA ls=true
 | [],_,_,_=>rfl
 | [_],_,_,_=>rfl
 | x :: y :: l,hr,nd,h=>by
  have hr':qdp (y :: l):=(List.pairwise_cons.mp hr).2
  have nd':=(List.nodup_cons.mp nd).2
  have h1:=qdx hr' nd' fun z hz=>h z (List.mem_cons_of_mem _ hz)
  have hx:=h x List.mem_cons_self
  have hy:=h y (List.mem_cons_of_mem _ List.mem_cons_self)
  have lt:lexI x y=true:=by
   cases e:lexI x y with
   | true=>rfl
   | false =>
    have e2:lexI y x=false:=(List.pairwise_cons.mp hr).1 y List.mem_cons_self
    exact absurd (qdZ x y e e2) fun z=>(List.nodup_cons.mp nd).1 (by rw [z]; exact List.mem_cons_self)
  show (adC x y && adjA (y :: l))=true
  unfold adC
  rw [lt,h1,hx.1,hy.1,hx.2,hy.2]; simp
theorem qgZ {W:Int}(hW:0 < W){p:List Int × Int}(h:0 < p.2):posD (sndD (dW W p))=true:=by
 have h1:(1:Int)≤((Rat.divInt p.2 W).den:Int):=by have:=(Rat.divInt p.2 W).den_pos; omega
 have h2:=qks (Rat.divInt p.2 W)
 have h3:0 < (Rat.divInt p.2 W).num:=by
  have e:=(qbw (t:=p.2) hW).1
  rw [<- e]
  exact Int.ediv_pos_of_pos_of_dvd h (qhD _ _) (qdh _ _)
 show (decide ((1:Int)≤((Rat.divInt p.2 W).den:Int)) && decide (gI (Rat.divInt p.2 W).num ((Rat.divInt p.2 W).den:Int)=1) && decide (0 < (Rat.divInt p.2 W).num))=true
 rw [decide_eq_true h1,decide_eq_true h2,decide_eq_true h3]; rfl
theorem qig (m:Mp):qah (srt m)=rise (qah m):=by
 unfold srt qah
 rw [List.map_map]
 exact List.map_id' _
theorem qcQ {m:Mp}(nd:(qah m).Nodup):wsum (srt m)=(qav m).sum:=by
 unfold wsum srt qav
 rw [List.map_map]
 have e:((rise (qah m)).map ((fun p:List Int × Int=>p.2) ∘ fun k=>(k,getM m k))).sum=((qah m).map fun k=>getM m k).sum:=qfu ((qaI _).map _)
 rw [e]
 unfold qah
 rw [List.map_map]
 congr 1
 exact List.map_congr_left fun p hp=>qfR nd hp
theorem qeX {m:Mp}{n:Nat}{b:Int}(n1:1≤n)(n6:n≤6)(nd:(qah m).Nodup)(ld:∀ k∈qah m,LdOk k n b)(pos:∀ k∈qah m,0 < getM m k)(hW:0 < (qav m).sum):qaE (.list ((srt m).map (dW (qav m).sum)))=true:=by
 have km:∀ p∈srt m,p.1∈qah m/\0 < p.2:=fun p hp=>by
  unfold srt at hp
  obtain ⟨k,hk,rfl⟩:=List.mem_map.mp hp
  have:=(qaI _).mem_iff.mp hk
  exact ⟨this,pos k this⟩
 have q1:((srt m).map (dW (qav m).sum)).all rowD=true:=List.all_eq_true.mpr fun d hd=>by
  obtain ⟨p,_,rfl⟩:=List.mem_map.mp hd; rfl
 have q2:(((srt m).map (dW (qav m).sum)).all fun d=>qaD (fstD d))=true:=List.all_eq_true.mpr fun d hd=>by
  obtain ⟨p,hp,rfl⟩:=List.mem_map.mp hd
  have l:=ld p.1 (km p hp).1
  exact qki (ns:=p.1) (by rw [l.len]; exact n1) (by rw [l.len]; exact n6) l.nn l.dn
 have q3:(((srt m).map (dW (qav m).sum)).all fun d=>posD (sndD d))=true:=List.all_eq_true.mpr fun d hd=>by
  obtain ⟨p,hp,rfl⟩:=List.mem_map.mp hd
  exact qgZ hW (km p hp).2
 have q4:adjA (lsD ((srt m).map (dW (qav m).sum)))=true:=by
  rw [ls_ws,qig]
  exact qdx (qc3 _) ((qaI _).nodup_iff.mpr nd) fun l hl=>by
   have:=ld l ((qaI _).mem_iff.mp hl)
   exact ⟨this.len,this.sum⟩
 rw [qeb,q1,q2,q3,q4,qlI hW,qcQ nd,Rat.divInt_self' (by omega)]
 rfl
theorem qgU {H:Hp}:∀ {xs:List V} {ds:List PyData},qam H xs ds->ds.all rowD=true->(ds.all fun d=>qaD (fstD d))=true->(ds.all fun d=>posD (sndD d))=true->Paired (RwAt H) xs (ds.map fun d=>(qhg (fstD d),qD (sndD d)))
 | _,_,.nil,_,_,_ => .nil
 | _,_,.cons (d:=d) (ds:=ds) hx r,h1,h2,h3=>by
  have h1':rowD d=true/\ds.all rowD=true:=by simpa using h1
  have h2':qaD (fstD d)=true/\(ds.all fun d=>qaD (fstD d))=true:=by simpa using h2
  have h3':posD (sndD d)=true/\(ds.all fun d=>posD (sndD d))=true:=by simpa using h3
  refine .cons ?_ (qgU r h1'.2 h2'.2 h3'.2)
  obtain ⟨a,b,rfl⟩:=qfA h1'.1
  obtain ⟨p,x,y,rfl,hp,dx,dy⟩:=qgA hx
  obtain ⟨c,rfl,hc⟩:=qhl dx h2'.1
  exact ⟨p,c,y,rfl,hp,hc,qjd dy h3'.1⟩
theorem sp_of {H:Hp}{l:Addr}{xs:List V}{ds:List PyData}{M Z:Nat}(hl:H l=some (.lst xs))(dl:qam H xs ds)(h:qaE (.list ds)=true)(el:∀ e∈ds,ElB M Z e):∃ rs:Spd,SpAt H l rs/\rs.length=ds.length/\InB (M + 41) (2 * Z + 10) rs:=by
 refine ⟨ds.map fun d=>(qhg (fstD d),qD (sndD d)),⟨xs,hl,?_⟩,by simp,fun r hr=>?_⟩
 ·simp only [qaE,Bool.and_eq_true] at h
  exact qgU dl h.1.1 h.1.2 h.2.2.2.1
 ·obtain ⟨d,hd,rfl⟩:=List.mem_map.mp hr
  simp only [qaE,Bool.and_eq_true] at h
  obtain ⟨⟨h1,h2⟩,_,_,h3,_⟩:=h
  have r1:=List.all_eq_true.mp h1 d hd
  have r2:=List.all_eq_true.mp h2 d hd
  have r3:=List.all_eq_true.mp h3 d hd
  obtain ⟨a,b,rfl⟩:=qfA r1
  have e:=el _ hd
  have r2':qaD a=true:=r2
  cases a with
  | tuple fs =>
   simp only [qaD,Bool.and_eq_true,decide_eq_true_eq] at r2'
   obtain ⟨⟨⟨l1,l6⟩,nn⟩,_⟩:=r2'
   obtain ⟨x,y,eb,y1,g1,x0⟩:=qc5 (show posD b=true from r3)
   subst eb
   have sh:=e.shr x y rfl
   have eq:qD (.tuple [.int x,.int y])=Rat.divInt x y:=if_pos y1
   obtain ⟨e1,e2⟩:=red y1 g1
   refine ⟨by show 1≤(fs.map numD).length; rw [List.length_map]; exact l1,by show (fs.map numD).length≤6; rw [List.length_map]; exact l6,fun z hz=>?_,qjS r3,?_,?_⟩
   ·obtain ⟨f,hf,rfl⟩:=List.mem_map.mp (show z∈fs.map numD from hz)
    obtain ⟨i,rfl,i0⟩:=qkg (List.all_eq_true.mp nn f hf)
    have:=(e.tup fs rfl).2 i hf
    show 0≤i/\i≤((M + 41:Nat):Int)
    omega
   ·show (qD (.tuple [.int x,.int y])).num≤((2 * Z + 10:Nat):Int)
    rw [eq,e1]; omega
   ·show (qD (.tuple [.int x,.int y])).den≤2 * Z + 10
    have:((Rat.divInt x y).den:Int)=y:=e2
    rw [eq]; omega
  | _=>cases r2'
theorem qi4:∀ (qs:List Rat) (a:Rat) (m:Nat),(∀ q∈qs,SB 110 q)->SB m a->SB (m + 111 * qs.length) (qs.foldl (· + ·) a)
 | [],a,m,_,h=>h
 | q :: qs,a,m,hq,h=>by
  have h1:=h.add (hq q List.mem_cons_self)
  have:=qi4 qs (a + q) (m + 110 + 1) (fun r hr=>hq r (List.mem_cons_of_mem _ hr)) h1
  rw [show m + 111 * (q :: qs).length=m + 110 + 1 + 111 * qs.length by simp; omega]
  exact this
theorem bt10 {x:Int}(h:x.natAbs≤1000):Bt 10 x:=Bt.of_lt (show x.natAbs < 2 ^ 10 by have:(2:Nat) ^ 10=1024:=rfl; omega)
theorem qc9 {M Z k:Nat}{d:PyData}(h:Out M Z k d)(hk:k≤8)(hZ:Z≤400):∀ ds,d = .list ds->FitV ds:=fun ds e=>by
 obtain ⟨h1,h2⟩:=h.ls ds e
 have sb:∀ q∈qsD ds,SB 110 q:=fun q hq=>by
  obtain ⟨e,he,rfl⟩:=List.mem_map.mp hq
  have sh:=(h2 e he).shr
  have z:SB 110 (0:Rat):=(sb0 1 (by decide)).mono (by decide)
  generalize sndD e=s at sh
  unfold qD
  split
  ·rename_i a b
   have:=sh a b rfl
   split
   ·rename_i b1
    exact (SB.divInt (bt10 (by omega)) (bt10 (by omega)) (by omega)).mono (by decide)
   ·exact z
  ·exact z
 refine ⟨by omega,fun e he fs efs=>by have:=((h2 e he).tup fs efs).1; omega,sb,fun i=>?_⟩
 have:=qi4 ((qsD ds).take i) 0 1 (fun q h=>sb q (List.mem_of_mem_take h)) (sb0 1 (by decide))
 refine this.mono ?_
 have l:((qsD ds).take i).length≤8:=by
  rw [List.length_take]
  have:(qsD ds).length=ds.length:=by simp [qsD]
  omega
 omega
theorem qcS {M Z k:Nat}{d:PyData}(h:Out M Z k d):Good d:=let ⟨b,kd⟩:=h.kd; kd.good (by decide) (by decide)
theorem seqJ {t u:TS}{D:Ends}{σ:St}{H:Hp}(C:St->Hp->Prop)(main:∀ R:St->Hp->Prop,(∀ σ' h,C σ' h->R σ' h)->t { D with nx:=R } σ H)(key:∀ σ' h,C σ' h->u D σ' h):tSeq t u D σ H:=main _ key
theorem k_ne {m:Mp}{n:Nat}{b hi:Int}(c:Cnt m n b hi)(n1:1≤n):∀ k∈qah m,k≠[]:=fun k hk e=>by
 have:=(c.ld k hk).len
 rw [e] at this
 simp at this; omega
theorem qlQ {m:Mp}{n:Nat}{b hi:Int}(c:Cnt m n b hi)(ne:m≠[]):0 < (qav m).sum:=by
 rw [<- qcQ c.nd]
 have pos:∀ p∈srt m,0 < p.2:=fun p hp=>by
  unfold srt at hp
  obtain ⟨k,hk,rfl⟩:=List.mem_map.mp hp
  exact c.pos k ((qaI _).mem_iff.mp hk)
 have l:=qgK m
 have:0 < m.length:=List.length_pos_iff.mpr ne
 obtain ⟨p,ws,e⟩:=List.exists_cons_of_ne_nil (show srt m≠[] from fun z=>by rw [z] at l; simp at l; omega)
 rw [e] at pos ⊢
 have h1:=pos p List.mem_cons_self
 have h2:=qcm (ws:=ws) fun q hq=>pos q (List.mem_cons_of_mem _ hq)
 rw [qbt]; omega
theorem qlC {m:Mp}{n b:Nat}(c:Cnt m n b 120)(ne:m≠[])(n1:1≤n)(n6:n≤6)(b40:b≤40):InB 40 120 (sprF m (qav m).sum):=fun r hr=>by
 have W0:=qlQ c ne
 have W1:=c.sum
 unfold sprF at hr
 obtain ⟨k,hk,rfl⟩:=List.mem_map.mp hr
 have hk':=(qaI _).mem_iff.mp hk
 have ld:=c.ld k hk'
 have g0:=c.pos k hk'
 have e:=qbw (t:=getM m k) W0
 have g1:getM m k≤(qav m).sum:=by
  rw [<- qcQ c.nd]
  refine qfr (ws:=srt m) (p:=(k,getM m k)) (fun p hp=>?_) (List.mem_map.mpr ⟨k,hk,rfl⟩)
  unfold srt at hp
  obtain ⟨k',hk2,rfl⟩:=List.mem_map.mp hp
  exact c.pos k' ((qaI _).mem_iff.mp hk2)
 have a1:getM m k / gI (getM m k) (qav m).sum≤getM m k:=Int.ediv_le_self _ (by omega)
 have a2:(qav m).sum / gI (getM m k) (qav m).sum≤(qav m).sum:=Int.ediv_le_self _ (by omega)
 rw [e.1] at a1
 rw [e.2] at a2
 refine ⟨by rw [ld.len]; exact n1,by rw [ld.len]; exact n6,fun x hx=>⟨ld.nn x hx,?_⟩,?_,?_,?_⟩
 ·have:=qgh ld.nn x hx
  rw [ld.sum] at this
  omega
 ·have:=qjS (qgZ (p:=(k,getM m k)) W0 g0)
  rw [qk7] at this
  exact this
 ·show (Rat.divInt (getM m k) (qav m).sum).num≤120
  omega
 ·show (Rat.divInt (getM m k) (qav m).sum).den≤120
  omega
def qkP:List (Nat × Nat):=[(3,24),(4,16),(5,14),(6,13),(6,15),(6,17),(5,20)]
def qln:List (Int × Int):=[(3,24),(4,16),(5,14),(6,13),(6,15),(6,17),(5,20)]
theorem qlm:∀ c∈qln,∃ q∈qkP,c.1=(q.1:Int)/\c.2=(q.2:Int):=by decide
theorem qkO:∀ p∈qkP,61≤cntL p.1 p.2 p.2/\cntL p.1 p.2 p.2≤295/\3≤p.1/\p.1≤6/\p.2≤24:=by decide +kernel
def Pr2 (H:Hp)(x:V)(c:Int × Int):Prop:=∃ t,x = .ref t/\H t=some (.tup [.int c.1,.int c.2])
theorem qjU {H:Hp}{xs:List V}{cs:List (Int × Int)}(h:Paired (Pr2 H) xs cs){r:Int}(h0:0≤r)(h1:r < cs.length):∃ (c:Int × Int) (t:Addr),c∈cs/\atI xs r=some (.ref t)/\H t=some (.tup [.int c.1,.int c.2]):=by
 obtain ⟨j,rfl⟩:∃ j:Nat,r=(j:Int):=⟨r.toNat,by omega⟩
 have hl:=Paired.length h
 have hj:j < xs.length:=by omega
 obtain ⟨c,hc,t,e,ht⟩:=qan h (List.getElem?_eq_getElem hj)
 exact ⟨c,t,List.mem_of_getElem? hc,by rw [qbO (List.getElem?_eq_getElem hj),e],ht⟩
def wtM (sp:Int)(ks:List (List Int)):Mp:=ks.zipIdx.map fun q=>(q.1,1 + if (q.2:Int)=sp then 1 else 0)
theorem qjt (sp:Int)(ks:List (List Int)):qah (wtM sp ks)=ks:=by
 unfold wtM qah
 rw [List.map_map]
 show ks.zipIdx.map (fun q=>q.1)=ks
 exact List.zipIdx_map_fst 0 ks
theorem qgs (sp:Int)(ks:List (List Int)):(wtM sp ks).length=ks.length:=by simp [wtM]
theorem qi2 {sp:Int}{ks:List (List Int)}{p:List Int × Int}(h:p∈wtM sp ks):1≤p.2/\p.2≤2:=by
 unfold wtM at h
 obtain ⟨q,_,rfl⟩:=List.mem_map.mp h
 dsimp only
 split <;> omega
theorem wt_at {sp:Int}{ks:List (List Int)}{i:Nat}{k:List Int}(h:ks[i]?=some k):(wtM sp ks)[i]?=some (k,1 + if (i:Int)=sp then 1 else 0):=by
 unfold wtM
 rw [List.getElem?_map,List.getElem?_zipIdx,h]
 simp
theorem qkM (sp:Int)(ks:List (List Int)):(ks.length:Int)≤(qav (wtM sp ks)).sum/\(qav (wtM sp ks)).sum≤2 * ks.length:=by
 have key:∀ ws:Mp,(∀ p∈ws,1≤p.2/\p.2≤2)->(ws.length:Int)≤wsum ws/\wsum ws≤2 * ws.length:=by
  intro ws
  induction ws with
  | nil=>intro _; simp [wsum,qav]
  | cons p ws ih =>
   intro h
   have h1:=h p List.mem_cons_self
   have h2:=ih fun q hq=>h q (List.mem_cons_of_mem _ hq)
   rw [qbt,List.length_cons]
   omega
 have:=key (wtM sp ks) fun p hp=>qi2 hp
 rw [qgs] at this
 exact this
theorem qkC (xs:List V)(h:1≤xs.length):cutV xs none (some (-1))=xs.take (xs.length - 1):=by
 have e:HT.sIx xs.length xs.length (some (-1))=xs.length - 1:=by
  show (if (-1:Int) < 0 then (-1 + (xs.length:Int)).toNat else min (-1:Int).toNat xs.length)=_
  rw [if_pos (by decide)]; omega
 unfold cutV
 rw [e,HT.sIx_none]; simp
theorem qiX (xs:List V)(h:1≤xs.length):cutV xs (some (-1)) none=xs.drop (xs.length - 1):=by
 have e:HT.sIx xs.length 0 (some (-1))=xs.length - 1:=by
  show (if (-1:Int) < 0 then (-1 + (xs.length:Int)).toNat else min (-1:Int).toNat xs.length)=_
  rw [if_pos (by decide)]; omega
 unfold cutV
 rw [e,HT.sIx_none]
 exact List.take_of_length_le (by simp)
theorem qjm {H:Hp}{xs ys:List V}{ds es:List PyData}(h:qam H xs ds)(g:qam H ys es):qam H (xs ++ ys) (ds ++ es):=qam.append h g
theorem qfm {H:Hp}:∀ (i:Nat) {xs:List V} {ds:List PyData},qam H xs ds->qam H (xs.drop i) (ds.drop i)
 | 0,_,_,h=>h
 | i + 1,_,_,.nil => .nil
 | i + 1,_,_,.cons _ t=>qfm i t
theorem qfl {H:Hp}:∀ (i:Nat) {xs:List V} {ds:List PyData},qam H xs ds->qam H (xs.take i) (ds.take i)
 | 0,_,_,_ => .nil
 | i + 1,_,_,.nil => .nil
 | i + 1,_,_,.cons h t => .cons h (qfl i t)
theorem qkY {H:Hp}{W:Int}:∀ {xs:List V} {ws:Mp},Paired (RwAt H) xs (ws.map fun p=>(p.1,Rat.divInt p.2 W))->qam H xs (ws.map (dW W))
 | _,[],.nil => .nil
 | _,_ :: _,.cons h t => .cons (qgT h) (qkY t)
theorem qjN {m:Mp}{k:List Int}{v:Int}(h:k ∉ qah m):putM m k v=m ++ [(k,v)]:=by
 unfold putM; rw [if_neg fun z=>h (qbQ.mp z)]
theorem qdy:∀ (n:Nat) (x:Mp),x.length=n->(qah x).Nodup->qbl [] (x.map kII)=x.map kII
 | 0,x,h,_=>by
  have:x=[]:=List.length_eq_zero_iff.mp h
  subst this; rfl
 | n + 1,x,h,nd=>by
  rcases List.eq_nil_or_concat x with e | ⟨y,p,e⟩
  ·subst e; simp at h
  ·rw [List.concat_eq_append] at e
   subst e
   have nd':(qah y).Nodup/\p.1 ∉ qah y:=by
    unfold qah at nd ⊢
    rw [List.map_append,List.nodup_append] at nd
    exact ⟨nd.1,fun z=>nd.2.2 _ z p.1 (by simp) rfl⟩
   have ih:=qdy n y (by simpa using h) nd'.1
   rw [List.map_append]
   show qbl [] (y.map kII ++ [kII p])=_
   rw [qb4,ih]
   show putK (y.map kII) (p.1.map Sum.inl) (.int p.2)=_
   rw [qgW,qjN nd'.2,List.map_append]
section
variable {P:Program}{w:World}{K:PySem.W.Frag}{mg:Str->Option Value}{base:Heap}
theorem qli (T:Txt2 mg)(C_l_pen:Cal P w K mg base "_law_pen" ["_law_script"] 1 (qkZ K))(C_l_draw:Cal P w K mg base "_law_draw" ["_law_pen_here", "_law_many"] 1 qcX)(C_l_counted:Cal P w K mg base "_law_counted" ["_law_pen_here", "_law_n", "_law_balls"] 3 qed)(C_l_spread:Cal P w K mg base "_law_spread" ["_law_found"] 3 qec)
  (C_l_spoilt:Cal P w K mg base "_law_spoilt" ["_law_pen_here", "_law_spread_here"] 3 qfv) (C_l_due:Cal P w K mg base "_law_due" ["_law_thing"] 5 qb9) (C_is_spread:Cal P w K mg base "is_spread" ["thing"] 5 qb9) (C_l_all:Cal P w K mg base "_law_all" ["_law_n", "_law_balls", "_law_most"] 7 (qij 6))
  {fa:Addr} {fd:FuncData} (F:Fun K "law" "law" qdP fa fd):FnOk P w K mg base CX0 8 fa fd ["_law_script"] (qii K):=by
 have S:=qja
 refine F.ok qja (fun vs H Q E h=>?_) (fun cdv A outer s H vs Q E hr h=>?_)
 ·obtain ⟨a,ns,rfl,_⟩:=h; rfl
 obtain ⟨a,ns,rfl,ha,hn,k⟩:=h
 have hu:=hr.units0
 have hu3:=qlE hr
 refine ⟨_,(@pK _ _ _ _ _ (@pZ _ _ (1) _ _ _ _ (by exact S.nd) ⋯ ⋯ (@cc _ _ _ _ _ _ _ _ _ _ (by exact C_l_pen) (by exact (hr.mono (by decide))) (@pC _ _ _ _ _ (pv 0) pN ⋯) ⋯ ⋯ ⋯ ⋯) ⋯ ⋯) (@pK _ _ _ _ _ (@qbK _ _ _ _ _ _ _ _ (by exact PassesOwn.never) ⋯ (@qcd _ _ _ _ _ _ ⋯ (by exact T.z_range) (@pC _ _ _ _ _ pI pN ⋯) ⋯) (@pG _ _ (2) _ (by exact S.nd) ⋯ ⋯ ⋯) (@pK _ _ _ _ _ (@pZ _ _ (6) _ _ _ _ (by exact S.nd) ⋯ ⋯ (@pP _ _ _ _ _ _ _ _ qaJ pI (@cc _ _ _ _ _ _ _ _ _ _ (by exact C_l_draw) (by exact (hr.mono (by decide))) (@pC _ _ _ _ _ (pv 1) (@pC _ _ _ _ _ pI pN ⋯) ⋯) ⋯ ⋯ ⋯ ⋯)) ⋯ ⋯) (@pK _ _ _ _ _ (@pZ _ _ (7) _ _ _ _ (by exact S.nd) ⋯ ⋯ (@cc _ _ _ _ _ _ _ _ _ _ (by exact C_l_spread) (by exact (hr.mono (by decide))) (@pC _ _ _ _ _ (@cc _ _ _ _ _ _ _ _ _ _ (by exact C_l_counted) (by exact (hr.mono (by decide))) (@pC _ _ _ _ _ (pv 1) (@pC _ _ _ _ _ (pv 6) (@pC _ _ _ _ _ (@cc _ _ _ _ _ _ _ _ _ _ (by exact C_l_draw) (by exact (hr.mono (by decide))) (@pC _ _ _ _ _ (pv 1) (@pC _ _ _ _ _ pI pN ⋯) ⋯) ⋯ ⋯ ⋯ ⋯) pN ⋯) ⋯) ⋯) ⋯ ⋯ ⋯ ⋯) pN ⋯) ⋯ ⋯ ⋯ ⋯) ⋯ ⋯) (@pK _ _ _ _ _ (@pZ _ _ (8) _ _ _ _ (by exact S.nd) ⋯ ⋯ (@cc _ _ _ _ _ _ _ _ _ _ (by exact C_l_spoilt) (by exact (hr.mono (by decide))) (@pC _ _ _ _ _ (pv 1) (@pC _ _ _ _ _ (pv 7) pN ⋯) ⋯) ⋯ ⋯ ⋯ ⋯) ⋯ ⋯) (@pK _ _ _ _ _ (@qa8 _ _ _ _ _ _ _ _ (@PW.pt _ _ _ (@qfC _ _ _ _ _ _ _ (@qaM _ _ _ (@qab _ _ _ _ _ _ _ _ _ qaH ⋯ (by exact T.z_isinstance) (by exact qae) (@pC _ _ _ _ _ (pv 8) (@pC _ _ _ _ _ (@qaU _ _ (.ty "list") _ _ ⋯ (by exact T.z_list) (by exact qdl) ⋯ ⋯ ⋯) pN ⋯) ⋯) ⋯ ⋯ ⋯ ⋯) ⋯) (@qfC _ _ _ _ _ _ _ (@qaq _ _ _ _ _ _ _ _ (qle hu) (pv 8) (@qaN _ _ _ _ pN) (by exact (qal _))) (@qeZ _ _ _ _ (@qaM _ _ _ (@cc _ _ _ _ _ _ _ _ _ _ (by exact C_l_due) (by exact (hr.mono (by decide))) (@pC _ _ _ _ _ (pv 8) pN ⋯) ⋯ ⋯ ⋯ ⋯) ⋯))))) (@pO _ _ _ (@pZ _ _ (8) _ _ _ _ (by exact S.nd) ⋯ ⋯ (@cc _ _ _ _ _ _ _ _ _ _ (by exact C_l_spoilt) (by exact (hr.mono (by decide))) (@pC _ _ _ _ _ (pv 1) (@pC _ _ _ _ _ (pv 8) pN ⋯) ⋯) ⋯ ⋯ ⋯ ⋯) ⋯ ⋯)) qau) (@pO _ _ _ (@qbK _ _ _ _ _ _ _ _ (by exact PassesOwn.never) ⋯ (@qg2 _ _ _ _ (@qar _ _ _ _ _ (@pC _ _ _ _ _ (pv 7) (@pC _ _ _ _ _ (pv 8) (@pC _ _ _ _ _ (@cc _ _ _ _ _ _ _ _ _ _ (by exact C_l_spoilt) (by exact (hr.mono (by decide))) (@pC _ _ _ _ _ (pv 1) (@pC _ _ _ _ _ (pv 7) pN ⋯) ⋯) ⋯ ⋯ ⋯ ⋯) (@pC _ _ _ _ _ (@cc _ _ _ _ _ _ _ _ _ _ (by exact C_l_spoilt) (by exact (hr.mono (by decide))) (@pC _ _ _ _ _ (pv 1) (@pC _ _ _ _ _ (pv 7) pN ⋯) ⋯) ⋯ ⋯ ⋯ ⋯) pN ⋯) ⋯) ⋯) ⋯))) (@pG _ _ (9) _ (by exact S.nd) ⋯ ⋯ ⋯) (@pK _ _ _ _ _ (@pZ _ _ (11) _ _ _ _ (by exact S.nd) ⋯ ⋯ (@qab _ _ _ _ _ _ _ _ _ (qeH hr) ⋯ (by exact T.z_repr) (by exact qhX) (@pC _ _ _ _ _ (pv 9) pN ⋯) ⋯ ⋯ ⋯ ⋯) ⋯ ⋯) (@pK _ _ _ _ _ (@pZ _ _ (12) _ _ _ _ (by exact S.nd) ⋯ ⋯ (@cc _ _ _ _ _ _ _ _ _ _ (by exact C_is_spread) (by exact (hr.mono (by decide))) (@pC _ _ _ _ _ (pv 9) pN ⋯) ⋯ ⋯ ⋯ ⋯) ⋯ ⋯) (@pO _ _ _ (@qa8 _ _ _ _ _ _ _ _ (@PW.pt _ _ _ (@qbq _ _ _ _ _ _ _ (@qa1 _ _ _ _ (@qaM _ _ _ (@qab _ _ _ _ _ _ _ _ _ qaH ⋯ (by exact T.z_isinstance) (by exact qae) (@pC _ _ _ _ _ (pv 12) (@pC _ _ _ _ _ (@qaU _ _ (.ty "bool") _ _ ⋯ (by exact T.z_bool) (by exact qd6) ⋯ ⋯ ⋯) pN ⋯) ⋯) ⋯ ⋯ ⋯ ⋯) ⋯)) (@qbq _ _ _ _ _ _ _ (@qaq _ _ _ _ _ _ _ _ qeo (pv 12) (@cc _ _ _ _ _ _ _ _ _ _ (by exact C_l_due) (by exact (hr.mono (by decide))) (@pC _ _ _ _ _ (pv 9) pN ⋯) ⋯ ⋯ ⋯ ⋯) (by exact (qal _))) (@qbm _ _ _ _ (@qaq _ _ _ _ _ _ _ _ qeo (@qab _ _ _ _ _ _ _ _ _ (qeH hr) ⋯ (by exact T.z_repr) (by exact qhX) (@pC _ _ _ _ _ (pv 9) pN ⋯) ⋯ ⋯ ⋯ ⋯) (pv 11) (by exact (qal _))))))) (@pO _ _ _ (@qag _ _ _ _ qbi)) qau)))) ⋯)))))) ⋯) (@pK _ _ _ _ _ (@qcG _ _ _ _ _ _ (@qaA _ _ _ _ _ _ _ qa0 (@qaN _ _ _ _ (@pC _ _ _ _ _ (@qar _ _ _ _ _ (@pC _ _ _ _ _ pI (@pC _ _ _ _ _ pI pN ⋯) ⋯)) (@pC _ _ _ _ _ (@qar _ _ _ _ _ (@pC _ _ _ _ _ pI (@pC _ _ _ _ _ pI pN ⋯) ⋯)) (@pC _ _ _ _ _ (@qar _ _ _ _ _ (@pC _ _ _ _ _ pI (@pC _ _ _ _ _ pI pN ⋯) ⋯)) (@pC _ _ _ _ _ (@qar _ _ _ _ _ (@pC _ _ _ _ _ pI (@pC _ _ _ _ _ pI pN ⋯) ⋯)) (@pC _ _ _ _ _ (@qar _ _ _ _ _ (@pC _ _ _ _ _ pI (@pC _ _ _ _ _ pI pN ⋯) ⋯)) (@pC _ _ _ _ _ (@qar _ _ _ _ _ (@pC _ _ _ _ _ pI (@pC _ _ _ _ _ pI pN ⋯) ⋯)) (@pC _ _ _ _ _ (@qar _ _ _ _ _ (@pC _ _ _ _ _ pI (@pC _ _ _ _ _ pI pN ⋯) ⋯)) pN ⋯) ⋯) ⋯) ⋯) ⋯) ⋯) ⋯)) (@cc _ _ _ _ _ _ _ _ _ _ (by exact C_l_draw) (by exact (hr.mono (by decide))) (@pC _ _ _ _ _ (pv 1) (@pC _ _ _ _ _ pI pN ⋯) ⋯) ⋯ ⋯ ⋯ ⋯) (by exact (fun _ _=>rfl))) (@qbW _ _ _ _ _ _ ⋯ (@qai _ _ _ _ _ (@pG _ _ (6) _ (by exact S.nd) ⋯ ⋯ ⋯) (@qai _ _ _ _ _ (@pG _ _ (10) _ (by exact S.nd) ⋯ ⋯ ⋯) qaX ⋯) ⋯) ⋯ ⋯) ⋯ ⋯ ⋯) (@pK _ _ _ _ _ (@pZ _ _ (3) _ _ _ _ (by exact S.nd) ⋯ ⋯ (@cc _ _ _ _ _ _ _ _ _ _ (by exact C_l_draw) (by exact (hr.mono (by decide))) (@pC _ _ _ _ _ (pv 1) (@pC _ _ _ _ _ pI pN ⋯) ⋯) ⋯ ⋯ ⋯ ⋯) ⋯ ⋯) (@pK _ _ _ _ _ (@pZ _ _ (4) _ _ _ _ (by exact S.nd) ⋯ ⋯ (@cc _ _ _ _ _ _ _ _ _ _ (by exact C_l_all) (by exact (hr.mono (by decide))) (@pC _ _ _ _ _ (pv 6) (@pC _ _ _ _ _ (pv 10) (@pC _ _ _ _ _ (pv 10) pN ⋯) ⋯) ⋯) ⋯ ⋯ ⋯ ⋯) ⋯ ⋯) (@pK _ _ _ _ _ (@pZ _ _ (5) _ _ _ _ (by exact S.nd) ⋯ ⋯ (@cc _ _ _ _ _ _ _ _ _ _ (by exact C_l_spread) (by exact (hr.mono (by decide))) (@pC _ _ _ _ _ (@qbk _ _ _ _ _ _ _ _ _ (qgm ⋯ hu3) ⋯ (by exact T.z_dict) (by exact qkF) (@pC _ _ _ _ _ (@qbr _ _ _ _ _ _ _ _ _ _ _ _ _ ⋯ (by exact (fun _ _ h=>h)) (by decide +kernel) ⋯ (by decide +kernel) (by exact qbZ rfl) (by exact Sees.frees ["_law_at", "_law_load_here"] [("_law_spot",3)] (qdi ⟨rfl,rfl⟩ qb0)) (@qfF true _ _ _ _ _ _ _ _ ⋯ (by exact T.z_enumerate) (@pC _ _ _ _ _ (pv 4) pN ⋯) ⋯) (fun _ _ _ _ _ => @qcr _ _ _ _ _ (2) ⋯ (@qai _ _ _ _ _ (@pG _ _ (0) _ (by exact (show (["_law_at", "_law_load_here", "_law_spot"]:List Str).Nodup by decide +kernel)) ⋯ ⋯ ⋯) (@qai _ _ _ _ _ (@pG _ _ (1) _ (by exact (show (["_law_at", "_law_load_here", "_law_spot"]:List Str).Nodup by decide +kernel)) ⋯ ⋯ ⋯) qaX ⋯) ⋯) ⋯ ⋯) (fun _ _ _ _ _=>qba) (fun _ _ _ _ _=>(@qar _ _ _ _ _ (@pC _ _ _ _ _ (pv 1) (@pC _ _ _ _ _ (@pP _ _ _ _ _ _ _ _ qaJ pI (@qbk _ _ _ _ _ _ _ _ _ qeI ⋯ (by exact T.z_int) (by exact qeL) (@pC _ _ _ _ _ (@qa4 _ _ _ _ _ _ _ _ qdq (pv 0) (pv 2) (by exact (qal _))) pN ⋯) ⋯ ⋯ ⋯ ⋯)) pN ⋯) ⋯))) ⋯) pN ⋯) ⋯ ⋯ ⋯ ⋯) pN ⋯) ⋯ ⋯ ⋯ ⋯) ⋯ ⋯) (@pK _ _ _ _ _ (@qa8 _ _ _ _ _ _ _ _ (@PW.pt _ _ _ (@qbq _ _ _ _ _ _ _ (@qaq _ _ _ _ _ _ _ _ qg7 (@cc _ _ _ _ _ _ _ _ _ _ (by exact C_is_spread) (by exact (hr.mono (by decide))) (@pC _ _ _ _ _ (pv 5) pN ⋯) ⋯ ⋯ ⋯ ⋯) qbi (by exact (qal _))) (@qbq _ _ _ _ _ _ _ (@qaM _ _ _ (@cc _ _ _ _ _ _ _ _ _ _ (by exact C_is_spread) (by exact (hr.mono (by decide))) (@pC _ _ _ _ _ (@qas _ _ _ _ _ _ _ _ _ _ qaR (pv 5) qaC (@qaz _ _ _ (@qf7 _ _ _ _ _ _ qds pI))) pN ⋯) ⋯ ⋯ ⋯ ⋯) ⋯) (@qbm _ _ _ _ (@qaM _ _ _ (@cc _ _ _ _ _ _ _ _ _ _ (by exact C_is_spread) (by exact (hr.mono (by decide))) (@pC _ _ _ _ _ (@pP _ _ _ _ _ _ _ _ qbx (pv 5) (@qas _ _ _ _ _ _ _ _ _ _ qaR (pv 5) (@qaz _ _ _ (@qf7 _ _ _ _ _ _ qds pI)) qaC)) pN ⋯) ⋯ ⋯ ⋯ ⋯) ⋯))))) (@pO _ _ _ (@qag _ _ _ _ qbi)) qau) (@pK _ _ _ _ _ (@qa8 _ _ _ _ _ _ _ _ (@qaM _ _ _ (@cc _ _ _ _ _ _ _ _ _ _ (by exact C_is_spread) (by exact (hr.mono (by decide))) (@pC _ _ _ _ _ (@pP _ _ _ _ _ _ _ _ qbx (@qas _ _ _ _ _ _ _ _ _ _ qaR (pv 5) qaC (@qaz _ _ _ (pv 3))) (@qas _ _ _ _ _ _ _ _ _ _ qaR (pv 5) (@qaz _ _ _ (@pP _ _ _ _ _ _ _ _ qaJ (pv 3) pI)) qaC)) pN ⋯) ⋯ ⋯ ⋯ ⋯) ⋯) (@pO _ _ _ (@qag _ _ _ _ qbi)) qau) (@pO _ _ _ (@qag _ _ _ _ (@qce _ _ _ _ _ _ _ (@cc _ _ _ _ _ _ _ _ _ _ (by exact C_is_spread) (by exact (hr.mono (by decide))) (@pC _ _ _ _ _ (@qaN _ _ _ _ (@pC _ _ _ _ _ (@qar _ _ _ _ _ (@pC _ _ _ _ _ (@qar _ _ _ _ _ (@pC _ _ _ _ _ pI (@pC _ _ _ _ _ pI pN ⋯) ⋯)) (@pC _ _ _ _ _ (@qar _ _ _ _ _ (@pC _ _ _ _ _ pI (@pC _ _ _ _ _ pI pN ⋯) ⋯)) pN ⋯) ⋯)) pN ⋯)) pN ⋯) ⋯ ⋯ ⋯ ⋯) (@qcH _ _ _ _ _ (@qje _ _ _ _ (@cc _ _ _ _ _ _ _ _ _ _ (by exact C_is_spread) (by exact (hr.mono (by decide))) (@pC _ _ _ _ _ (@qaN _ _ _ _ pN) pN ⋯) ⋯ ⋯ ⋯ ⋯)))))))))))))),?_⟩
 refine ⟨_,rfl,a,ns,rfl,ha,fun p H1 s1 p1=>?_⟩
 refine ⟨6,rfl,by decide,by decide,qci (n:=6) (fun i σ H'=>(∃ o2 o3 o4 o5 o6 o7 o8 o9 o10 o11 o12,σ=[some (.ref a),some (.ref p),o2,o3,o4,o5,o6,o7,o8,o9,o10,o11,o12])/\Pen H' p (300 * i)) ⟨⟨_,_,_,_,_,_,_,_,_,_,_,rfl⟩,p1⟩ ?_ ?_⟩
 ·rintro i σ H2 hi ⟨⟨o2,o3,o4,o5,o6,o7,o8,o9,o10,o11,o12,rfl⟩,p2⟩
  refine ⟨_,rfl,p,_,_,rfl,p2,by omega,by decide,by decide,fun r4 H3 r40 r41 p3 x3=>⟨_,_,rfl,rfl,?_⟩⟩
  obtain ⟨n,hn1⟩:∃ n:Nat,1 + r4=(n:Int):=⟨(1 + r4).toNat,by omega⟩
  show qez 6 (V.int (1 + r4)) _ _ _
  rw [hn1]
  have n1:1≤n:=by omega
  have n6:n≤6:=by omega
  refine gN_ ?_
  refine ⟨_,rfl,_,rfl,_,rfl,p,_,_,rfl,p3,by omega,by decide,by decide,fun r5 H4 r50 r51 p4 x4=>?_⟩
  obtain ⟨b,rfl⟩:∃ b:Nat,r5=(b:Int):=⟨r5.toNat,by omega⟩
  refine ⟨p,n,b,_,rfl,n1,n6,by omega,p4,by omega,fun d mm H5 hd cn ne f4 p5 x5=>?_⟩
  have W0:=qlQ cn ne
  refine ⟨d,mm,rfl,hd,cn.nd,k_ne cn n1,by omega,fun k hk=>Int.le_of_lt (cn.pos k hk),W0,(bt20 (by omega) (by have:=cn.sum; omega)).mono (by decide),fun ls H6 s6 _ sp6=>?_⟩
  have ib:=qlC cn ne n1 n6 (by omega)
  have rl:(sprF mm (qav mm).sum).length=mm.length:=by unfold sprF; rw [List.length_map,(qaI _).length_eq]; simp [qah]
  have rne:sprF mm (qav mm).sum≠[]:=fun e=>by rw [e] at rl; have:=List.length_pos_iff.mpr ne; simp at rl; omega
  generalize sprF mm (qav mm).sum=rs at sp6 ib rl rne
  have p6:=p5.same s6
  clear hd cn x3 x4 x5 p3 p4 p5 s6
  refine gN_ ?_
  refine ⟨_,rfl,_,rfl,p,ls,rs,40,120,_,rfl,p6,by omega,sp6,rne,by omega,by decide,by decide,ib,fun v d7 H7 dv7 out7 p7 x7=>?_⟩
  refine gN_ ?_
  obtain ⟨kv6,dk6⟩:=p6.dk
  have sp7:=SpAt.sameX dk6 x7 sp6
  dsimp only
  refine seqJ (fun σ' h=>∃ v' d' M Z,σ'=[some (.ref a),some (.ref p),some (.int (0 + (i:Int))),o3,o4,o5,some (.int (n:Int)),some (.ref ls),some v',o9,o10,o11,o12]/\SpAt h ls rs/\DP h p v' d'/\Out M Z 8 d'/\Z≤400/\Pen h p (300 * i + 220)) ?_ ?_
  ·intro R key
   have mono:∀ {M Z k:Nat} {d:PyData},Out M Z k d->k≤8->Out M Z 8 d:=fun h hk=>⟨h.kd,fun ds e=>⟨Nat.le_trans (h.ls ds e).1 hk,(h.ls ds e).2⟩⟩
   have stay:∀ {h:Hp},Same H7 h->R [some (.ref a),some (.ref p),some (.int (0 + (i:Int))),o3,o4,o5,some (.int (n:Int)),some (.ref ls),some v,o9,o10,o11,o12] h:=fun s=>key _ _ ⟨v,d7,40,120,rfl,SpAt.same s sp7,dv7.s s,mono out7 (by omega),by decide,(p7.same s).mono (by omega)⟩
   have dv:=dv7.data
   obtain ⟨t',ty',_,_,_,e4⟩:=tyOf (K:=K) dv
   refine ⟨_,rfl,_,_,_,_,rfl,ty',e4,_,rfl,?_⟩
   clear ty'
   cases dv with
   | @lst lv xs ds hlv hdl =>
    refine iteT ⟨_,rfl,(by show 0≤sizeLine; decide),fun z hz=>?_⟩
    have s_H8:=sN hz (.lst [])
    have g_z:upd H7 z (.lst []) z=some (.lst []):=uS
    generalize upd H7 z (.lst [])=H8 at s_H8 g_z ⊢
    refine ⟨lv,z,xs,rfl,rfl,s_H8 _ _ hlv,g_z,_,rfl,ite2 (fun c=>?_) (fun c=>iteF (stay s_H8))⟩
    have fv:=qc9 out7 (by omega) (by decide)
    refine ⟨_,rfl,_,_,rfl,dv7.data.same s_H8,fv,fun H9 s9=>⟨_,rfl,ite2 (fun c2=>?_) (fun c2=>stay (s_H8.trans s9))⟩⟩
    have s79:=s_H8.trans s9
    have c3:qaE (.list ds)=true:=c2
    obtain ⟨l7,el7⟩:=out7.ls ds rfl
    obtain ⟨rs2,sp2,rl2,ib2⟩:=sp_of (s79 _ _ hlv) (qam.same s79 hdl) c3 el7
    have rne2:rs2≠[]:=fun e=>by
     rw [e] at rl2
     have:ds=[]:=List.length_eq_zero_iff.mp (by simpa using rl2.symm)
     rw [this] at c3; cases c3
    refine ⟨_,rfl,_,rfl,p,lv,rs2,81,250,_,rfl,p7.same s79,by omega,sp2,rne2,by omega,by decide,by decide,ib2,fun v2 d2 Ha dv2 out2 p10 x10=>?_⟩
    refine gN_ ?_
    obtain ⟨kv7,dk7⟩:=(p7.same s79).dk
    exact key _ _ ⟨v2,d2,81,250,rfl,SpAt.sameX dk7 x10 (SpAt.same s79 sp7),dv2,mono out2 (by omega),by decide,p10.mono (by omega)⟩
   | _=>exact iteF (stay (Same.refl _))
  rintro σ' H8 ⟨v1,d1,M,Z,rfl,sp8,dv8,out8,hZ,p8⟩
  clear sp7 sp6 dv7 out7 p7 x7 p6
  refine ⟨_,rfl,_,rfl,_,rfl,_,rfl,p,ls,rs,40,120,_,rfl,p8,by omega,sp8,rne,by omega,by decide,by decide,ib,fun v3 d3 H9 dv9 out9 p9 x9=>?_⟩
  obtain ⟨kv8,dk8⟩:=p8.dk
  have sp9:=SpAt.sameX dk8 x9 sp8
  refine ⟨_,rfl,_,rfl,p,ls,rs,40,120,_,rfl,p9,by omega,sp9,rne,by omega,by decide,by decide,ib,fun v4 d4 Ha dva outa pa xa=>?_⟩
  obtain ⟨kv9,dk9⟩:=p9.dk
  have spa:=SpAt.sameX dk9 xa sp9
  refine ⟨lz 4 rfl,fun tt htt=>?_⟩
  have s_Hb:=sN htt (.tup [.ref ls,v1,v3,v4])
  have g_tt:upd Ha tt (.tup [.ref ls,v1,v3,v4]) tt=some (.tup [.ref ls,v1,v3,v4]):=uS
  generalize upd Ha tt (.tup [.ref ls,v1,v3,v4])=Hb at s_Hb g_tt ⊢
  have things:∀ x∈[V.ref ls,v1,v3,v4],∃ d,qaP Hb x d/\Good d/\∀ ds,d = .list ds->FitV ds:=by
   intro x hx
   simp only [List.mem_cons,List.not_mem_nil,or_false] at hx
   rcases hx with rfl | rfl | rfl | rfl
   ·have o:Out 40 120 8 (dSp rs):=qbn (by decide) (by rw [List.length_map]; omega) (qlB ib (by decide) (by decide))
    exact ⟨_,(qjC spa).same s_Hb,qcS o,qc9 o (by decide) (by decide)⟩
   ·exact ⟨_,(((dv8.x x9).x xa).s s_Hb).data,qcS out8,qc9 out8 (by decide) hZ⟩
   ·exact ⟨_,((dv9.x xa).s s_Hb).data,qcS out9,qc9 out9 (by omega) (by decide)⟩
   ·exact ⟨_,(dva.s s_Hb).data,qcS outa,qc9 outa (by omega) (by decide)⟩
  have pb:=pa.same s_Hb
  refine ⟨tt,rfl,⟨_,SqT.of g_tt⟩,qhE (xs:=[V.ref ls,v1,v3,v4]) (fun j σ H'=>Same Hb H'/\∃ o9 o11 o12,σ=[some (.ref a),some (.ref p),some (.int (0 + (i:Int))),o3,o4,o5,some (.int (n:Int)),some (.ref ls),some v1,o9,o10,o11,o12]) ⟨Same.refl _,_,_,_,rfl⟩ (fun j σ H' _ ⟨s',_⟩=>SqT.of (s' _ _ g_tt)) ?_ ?_⟩
  ·rintro j x σ H' hx ⟨s',o9',o11',o12',rfl⟩
   obtain ⟨d,dx,gd,fx⟩:=things x (List.mem_of_getElem? hx)
   replace dx:=dx.same s'
   refine gN_ ?_
   refine ⟨_,rfl,_,d,rfl,dx,gd.sh,gd.ld,gd.dp,gd.ln,?_⟩
   refine gN_ ?_
   refine ⟨_,rfl,x,d,rfl,dx,fx,fun H10 s10=>?_⟩
   refine gN_ ?_
   refine ⟨_,rfl,_,_,_,_,rfl,.bl _,rfl,_,rfl,iteF ?_⟩
   refine ⟨_,rfl,_,rfl,x,d,rfl,dx.same s10,fx,fun H11 s11=>⟨rfl,_,rfl,qlz rfl ?_⟩⟩
   refine ⟨_,rfl,_,d,rfl,(dx.same s10).same s11,gd.sh,gd.ld,gd.dp,gd.ln,_,rfl,rfl,_,rfl,qlz rfl ?_⟩
   exact ⟨s'.trans (s10.trans s11),_,_,_,rfl⟩
  ·rintro σ H' ⟨s',o9',o11',o12',rfl⟩
   exact ⟨⟨_,_,_,_,_,_,_,_,_,_,_,rfl⟩,(pb.same s').mono (by omega)⟩
 ·rintro σ H2 ⟨⟨o2,o3,o4,o5,o6,o7,o8,o9,o10,o11,o12,rfl⟩,p2⟩
  refine ⟨lz 2 rfl,fun t0 ht0=>?_⟩
  have s_A0:=sN ht0 (.tup [.int 3,.int 24])
  have g_t0:upd H2 t0 (.tup [.int 3,.int 24]) t0=some (.tup [.int 3,.int 24]):=uS
  generalize upd H2 t0 (.tup [.int 3,.int 24])=A0 at s_A0 g_t0 ⊢
  refine ⟨lz 2 rfl,fun t1 ht1=>?_⟩
  have s_A1:=sN ht1 (.tup [.int 4,.int 16])
  have g_t1:upd A0 t1 (.tup [.int 4,.int 16]) t1=some (.tup [.int 4,.int 16]):=uS
  generalize upd A0 t1 (.tup [.int 4,.int 16])=A1 at s_A1 g_t1 ⊢
  refine ⟨lz 2 rfl,fun t2 ht2=>?_⟩
  have s_A2:=sN ht2 (.tup [.int 5,.int 14])
  have g_t2:upd A1 t2 (.tup [.int 5,.int 14]) t2=some (.tup [.int 5,.int 14]):=uS
  generalize upd A1 t2 (.tup [.int 5,.int 14])=A2 at s_A2 g_t2 ⊢
  refine ⟨lz 2 rfl,fun t3 ht3=>?_⟩
  have s_A3:=sN ht3 (.tup [.int 6,.int 13])
  have g_t3:upd A2 t3 (.tup [.int 6,.int 13]) t3=some (.tup [.int 6,.int 13]):=uS
  generalize upd A2 t3 (.tup [.int 6,.int 13])=A3 at s_A3 g_t3 ⊢
  refine ⟨lz 2 rfl,fun t4 ht4=>?_⟩
  have s_A4:=sN ht4 (.tup [.int 6,.int 15])
  have g_t4:upd A3 t4 (.tup [.int 6,.int 15]) t4=some (.tup [.int 6,.int 15]):=uS
  generalize upd A3 t4 (.tup [.int 6,.int 15])=A4 at s_A4 g_t4 ⊢
  refine ⟨lz 2 rfl,fun t5 ht5=>?_⟩
  have s_A5:=sN ht5 (.tup [.int 6,.int 17])
  have g_t5:upd A4 t5 (.tup [.int 6,.int 17]) t5=some (.tup [.int 6,.int 17]):=uS
  generalize upd A4 t5 (.tup [.int 6,.int 17])=A5 at s_A5 g_t5 ⊢
  refine ⟨lz 2 rfl,fun t6 ht6=>?_⟩
  have s_A6:=sN ht6 (.tup [.int 5,.int 20])
  have g_t6:upd A5 t6 (.tup [.int 5,.int 20]) t6=some (.tup [.int 5,.int 20]):=uS
  generalize upd A5 t6 (.tup [.int 5,.int 20])=A6 at s_A6 g_t6 ⊢
  refine ⟨lz 7 rfl,fun l hl=>?_⟩
  have s_A7:=sN hl (.lst [.ref t0,.ref t1,.ref t2,.ref t3,.ref t4,.ref t5,.ref t6])
  have g_l:upd A6 l (.lst [.ref t0,.ref t1,.ref t2,.ref t3,.ref t4,.ref t5,.ref t6]) l=some (.lst [.ref t0,.ref t1,.ref t2,.ref t3,.ref t4,.ref t5,.ref t6]):=uS
  generalize upd A6 l (.lst [.ref t0,.ref t1,.ref t2,.ref t3,.ref t4,.ref t5,.ref t6])=A7 at s_A7 g_l ⊢
  have sA:Same H2 A7:=s_A0.trans (s_A1.trans (s_A2.trans (s_A3.trans (s_A4.trans (s_A5.trans (s_A6.trans s_A7))))))
  have g_t0:=(s_A1.trans (s_A2.trans (s_A3.trans (s_A4.trans (s_A5.trans (s_A6.trans s_A7)))))) _ _ g_t0
  have g_t1:=(s_A2.trans (s_A3.trans (s_A4.trans (s_A5.trans (s_A6.trans s_A7))))) _ _ g_t1
  have g_t2:=(s_A3.trans (s_A4.trans (s_A5.trans (s_A6.trans s_A7)))) _ _ g_t2
  have g_t3:=(s_A4.trans (s_A5.trans (s_A6.trans s_A7))) _ _ g_t3
  have g_t4:=(s_A5.trans (s_A6.trans s_A7)) _ _ g_t4
  have g_t5:=(s_A6.trans s_A7) _ _ g_t5
  have g_t6:=(s_A7) _ _ g_t6
  have pr2:Paired (Pr2 A7) [.ref t0,.ref t1,.ref t2,.ref t3,.ref t4,.ref t5,.ref t6] qln := .cons ⟨t0,rfl,g_t0⟩ (.cons ⟨t1,rfl,g_t1⟩ (.cons ⟨t2,rfl,g_t2⟩ (.cons ⟨t3,rfl,g_t3⟩ (.cons ⟨t4,rfl,g_t4⟩ (.cons ⟨t5,rfl,g_t5⟩ (.cons ⟨t6,rfl,g_t6⟩ .nil))))))
  have pA:=p2.same sA
  refine ⟨_,rfl,p,_,_,rfl,pA,by decide,by decide,by decide,fun r1 H3 r10 r11 p3 x3=>?_⟩
  obtain ⟨cc,t,hc,hat,htc⟩:=qjU pr2 r10 r11
  obtain ⟨⟨n,b⟩,hq,ee1,ee2⟩:=qlm cc hc
  rw [ee1,ee2] at htc
  dsimp only at htc
  refine ⟨l,_,_,_,rfl,rfl,SqL.of (pA.keep x3 g_l),hat,t,_,rfl,SqT.of (pA.keep x3 htc),rfl,_,_,rfl,_,_,rfl,rfl,?_⟩
  refine ⟨_,rfl,p,_,_,rfl,p3,by decide,by decide,by decide,fun sp H4 sp0 sp1 p4 x4=>?_⟩
  refine gN_ ?_
  obtain ⟨k61,k295,n3,n6,b24⟩:=qkO _ hq
  dsimp only at k61 k295 n3 n6 b24
  rw [<- qh2] at k61 k295
  have ald:=qh1 n b b
  have aln:=qeR n b b
  refine ⟨_,rfl,_,rfl,_,rfl,n,b,b,rfl,by omega,n6,n6,by omega,by omega,by omega,fun q bs H5 s5 hq5 tb5=>?_⟩
  refine gN_ ?_
  clear pr2 pA x3 x4 p3 p4 p2 g_t0 g_t1 g_t2 g_t3 g_t4 g_t5 g_t6 g_l htc sA s5
  generalize allL n b b=ks at k61 k295 ald aln tb5
  have bl:=Paired.length tb5
  refine ⟨_,rfl,q,rfl,⟨_,SqL.of hq5⟩,qb2 (qd8 (xs:=bs.map V.ref)) (fun p i ys σ' H'=>Same H5 H'/\(∃ o1 o2,σ'=[o1,o2,some (.int sp)])/\qkK H' ys (((wtM sp ks).take i).map kII)) (by rw [List.length_map]; omega) ?_ ?_ ?_ ?_⟩
  ·exact fun p hp=>⟨sN hp _,⟨_,_,rfl⟩,.nil⟩
  ·rintro p i ys σ' H' hp ⟨s',_⟩
   exact s' _ _ hq5
  ·rintro p' i ys σ' H' x H'' hp' hi hl' ⟨s',⟨o1,o2,rfl⟩,rw'⟩ hp'' ⟨pe,x',rfl,hpe,rfl,hx⟩ Q1 Q2 h1 h2
   rw [List.getElem?_map,Option.map_eq_some_iff] at hx
   obtain ⟨b2,hb2,rfl⟩:=hx
   obtain ⟨k',hk,hbk⟩:=qan tb5 hb2
   have se:=sN hpe (.tup [.int (i:Int),.ref b2])
   have hpq:=se _ _ hp''
   refine ⟨pe,_,rfl,uS,rfl,_,_,rfl,_,_,rfl,rfl,tT_ (iteT ?_)⟩
   generalize upd H' pe (.tup [.int (i:Int),.ref b2])=H'' at se hpq ⊢
   refine ⟨_,rfl,_,rfl,_,rfl,rfl,.inr ⟨_,rfl,_,_,rfl,rfl,lz 2 rfl,fun t2 ht2=>?_⟩⟩
   have ev:(1 + if decide (V.int (i:Int)=V.int sp)=true then (1:Int) else 0)=1 + if (i:Int)=sp then 1 else 0:=by
    by_cases z:(i:Int)=sp
    ·rw [if_pos z,if_pos (decide_eq_true (by rw [z]))]
    ·rw [if_neg z,if_neg (fun y=>z (V.int.inj (of_decide_eq_true y)))]
   have s6:=sN ht2 (.tup [.ref b2,.int (1 + if decide (V.int (i:Int)=V.int sp)=true then (1:Int) else 0)])
   have g6:upd H'' t2 (.tup [.ref b2,.int (1 + if decide (V.int (i:Int)=V.int sp)=true then (1:Int) else 0)]) t2=some (.tup [.ref b2,.int (1 + if (i:Int)=sp then 1 else 0)]):=by rw [<- ev]; exact uS
   generalize upd H'' t2 (.tup [.ref b2,.int (1 + if decide (V.int (i:Int)=V.int sp)=true then (1:Int) else 0)])=H6 at s6 g6 ⊢
   have see:=se.trans s6
   have hp6:=s6 _ _ hpq
   refine h1 _ _ _ hp6 ⟨qaL hp' (s'.trans see) _,⟨_,_,rfl⟩,?_⟩
   rw [take_snoc (wt_at (sp:=sp) hk),List.map_append]
   refine qc7 (Paired.imp' (fun v kv ⟨a,b,e,ha,hb⟩=>⟨a,b,e,tupL hp6 _ _ (see _ _ ha),tupL hp6 _ _ (see _ _ hb)⟩) rw') ⟨t2,b2,rfl,tupL hp6 _ _ g6,?_⟩
   exact qfP (tupL hp6 _ _ (see _ _ (s' _ _ hbk)))
  rintro p' ys σ' HI hp' ⟨s',_,rw'⟩ hp'' hl'
  rw [List.length_map,bl,<- qgs sp ks,List.take_length] at rw'
  have yl:=Paired.length rw'
  have wl:=qgs sp ks
  have wk:=qjt sp ks
  obtain ⟨ws1,ws2⟩:=qkM sp ks
  have wp:∀ k∈qah (wtM sp ks),0 < getM (wtM sp ks) k:=fun k hk=>by
   obtain ⟨q,hq,rfl⟩:=List.mem_map.mp hk
   rw [qfR (by rw [wk]; exact aln) hq]
   have:=qi2 hq; omega
  have nd:(qah (wtM sp ks)).Nodup:=by rw [wk]; exact aln
  have ld:∀ k∈qah (wtM sp ks),LdOk k n b:=fun k hk=>(ald k (by rw [wk] at hk; exact hk)).1
  refine ⟨p',ys,_,rfl,hp'',rw',by rw [yl]; simp; omega,fun d hd=>?_⟩
  rw [qdy _ (wtM sp ks) rfl nd]
  clear wk aln ald tb5 hq5 rw'
  generalize wtM sp ks=m at yl wl ws1 ws2 wp nd ld ⊢
  have s_HJ:=sN hd (.dT (m.map kII))
  have g_d:upd HI d (.dT (m.map kII)) d=some (.dT (m.map kII)):=uS
  generalize upd HI d (.dT (m.map kII))=HJ at s_HJ g_d ⊢
  refine ⟨d,m,rfl,g_d,nd,fun k hk e=>?_,by omega,fun k hk=>Int.le_of_lt (wp k hk),by omega,(bt20 (by omega) (by omega)).mono (by decide),fun l1 HL sL _ sp1=>?_⟩
  ·have:=(ld k hk).len
   rw [e] at this; simp at this; omega
  refine gN_ ?_
  have W0:0 < (qav m).sum:=by omega
  have W1:(qav m).sum≤1000:=by omega
  have tru:=qeX (by omega) n6 nd ld wp W0
  have wsm:=qcQ nd
  have sl:=qgK m
  have sln:∀ p∈srt m,p.1.length≤1000/\0 < p.2:=fun p hp=>by
   unfold srt at hp
   obtain ⟨k,hk,rfl⟩:=List.mem_map.mp hp
   have hk':=(qaI _).mem_iff.mp hk
   exact ⟨by have:=(ld k hk').len; show k.length≤1000; omega,wp k hk'⟩
  rw [qjB] at sp1
  obtain ⟨xs,hl1,rws⟩:=sp1
  have dl:=qkY rws
  have xl:=Paired.length rws
  rw [List.length_map] at xl
  clear rws ld nd wp
  generalize srt m=ws at tru wsm sl sln dl xl
  generalize (qav m).sum=W at *
  have fitA:∀ us:Mp,us.length≤300->(∀ p∈us,p∈ws)->wsum us≤2000->∀ ds,PyData.list (us.map (dW W)) = .list ds->FitV ds:=fun us h1 h2 h3 ds e=>by
   cases e; exact qjl W0 W1 h1 (fun p hp=>(sln p (h2 p hp)).1) (fun p hp=>(sln p (h2 p hp)).2) h3
  have f0:FitV []:=⟨by decide,by simp,by simp [qsD],fun i=>by simp [qsD]; exact (sb0 1 (by decide)).mono (by decide)⟩
  have posA:∀ p∈ws,0 < p.2:=fun p hp=>(sln p hp).2
  have x1:1≤xs.length:=by omega
  refine ⟨_,rfl,_,_,rfl,.lst hl1 dl,fitA ws (by omega) (fun p hp=>hp) (by omega),fun M1 sM1=>?_⟩
  rw [tru]
  refine ⟨_,_,rfl,rfl,_,rfl,iteF ?_⟩
  refine ⟨_,rfl,_,rfl,_,rfl,l1,_,rfl,SqL.of (sM1 _ _ hl1),fun c1 hc1=>?_⟩
  rw [qkC xs x1]
  have s_M2:=sN hc1 (.lst (xs.take (xs.length - 1)))
  have g_c1:upd M1 c1 (.lst (xs.take (xs.length - 1))) c1=some (.lst (xs.take (xs.length - 1))):=uS
  generalize upd M1 c1 (.lst (xs.take (xs.length - 1)))=M2 at s_M2 g_c1 ⊢
  have s12:=sM1.trans s_M2
  have e1:ws.take (xs.length - 1) ++ ws.drop (xs.length - 1)=ws:=List.take_append_drop _ _
  have dr:0 < wsum (ws.drop (xs.length - 1)):=by
   obtain ⟨q,us,e⟩:=List.exists_cons_of_ne_nil (show ws.drop (xs.length - 1)≠[] from fun z=>by
    have:=congrArg List.length z
    rw [List.length_drop] at this
    simp at this; omega)
   have pq:∀ p∈q :: us,0 < p.2:=fun p hp=>posA p (List.mem_of_mem_drop (by rw [e]; exact hp))
   rw [e,qbt]
   have h1:=pq q List.mem_cons_self
   have h2:=qcm (ws:=us) fun p hp=>pq p (List.mem_cons_of_mem _ hp)
   omega
  have e2:=qb6 (ws.take (xs.length - 1)) (ws.drop (xs.length - 1))
  rw [e1] at e2
  have dt:=qcm (ws:=ws.take (xs.length - 1)) fun p hp=>posA p (List.mem_of_mem_take hp)
  refine ⟨.ref c1,.list ((ws.take (xs.length - 1)).map (dW W)),rfl,.lst g_c1 (by rw [List.map_take]; exact qfl _ (qam.same s12 dl)),fitA _ (by rw [List.length_take]; omega) (fun p hp=>List.mem_of_mem_take hp) (by omega),fun M3 sM3=>?_⟩
  rw [qcn W0 (by omega)]
  refine ⟨_,rfl,iteF ?_⟩
  have s13:=s12.trans sM3
  refine ⟨_,rfl,_,rfl,_,rfl,_,rfl,l1,_,rfl,SqL.of (s13 _ _ hl1),fun c2 hc2=>?_⟩
  rw [qiX xs x1]
  have s_M4:=sN hc2 (.lst (xs.drop (xs.length - 1)))
  have g_c2:upd M3 c2 (.lst (xs.drop (xs.length - 1))) c2=some (.lst (xs.drop (xs.length - 1))):=uS
  generalize upd M3 c2 (.lst (xs.drop (xs.length - 1)))=M4 at s_M4 g_c2 ⊢
  refine ⟨l1,c2,_,_,rfl,rfl,(s13.trans s_M4) _ _ hl1,g_c2,by rw [sizeLine_eq,List.length_drop]; omega,fun c3 hc3=>?_⟩
  have s_M5:=sN hc3 (.lst (xs ++ xs.drop (xs.length - 1)))
  have g_c3:upd M4 c3 (.lst (xs ++ xs.drop (xs.length - 1))) c3=some (.lst (xs ++ xs.drop (xs.length - 1))):=uS
  generalize upd M4 c3 (.lst (xs ++ xs.drop (xs.length - 1)))=M5 at s_M5 g_c3 ⊢
  have s15:=s13.trans (s_M4.trans s_M5)
  have e3:=qb6 ws (ws.drop (xs.length - 1))
  have dd:wsum (ws.drop (xs.length - 1))≤wsum ws:=by omega
  refine ⟨.ref c3,.list ((ws ++ ws.drop (xs.length - 1)).map (dW W)),rfl,.lst g_c3 (by rw [List.map_append,List.map_drop]; exact qjm (qam.same s15 dl) (qfm _ (qam.same s15 dl))),fitA _ (by rw [List.length_append,List.length_drop]; omega) (fun p hp=>(List.mem_append.mp hp).elim id List.mem_of_mem_drop) (by omega),fun M6 sM6=>?_⟩
  rw [qcn W0 (by omega)]
  refine ⟨_,rfl,iteF ?_⟩
  have s16:=s15.trans sM6
  obtain ⟨j,rfl⟩:∃ j:Nat,sp=(j:Int):=⟨sp.toNat,by omega⟩
  have hj:j < xs.length:=by omega
  refine ⟨_,rfl,_,rfl,_,rfl,l1,_,rfl,SqL.of (s16 _ _ hl1),fun c4 hc4=>?_⟩
  rw [qd5 (xs:=xs) (k:=j) (by omega)]
  have s_M7:=sN hc4 (.lst (xs.take j))
  have g_c4:upd M6 c4 (.lst (xs.take j)) c4=some (.lst (xs.take j)):=uS
  generalize upd M6 c4 (.lst (xs.take j))=M7 at s_M7 g_c4 ⊢
  refine ⟨_,rfl,_,rfl,_,_,rfl,rfl,_,rfl,l1,_,rfl,SqL.of ((s16.trans s_M7) _ _ hl1),fun c5 hc5=>?_⟩
  rw [show (j:Int) + 1=((j + 1:Nat):Int) by omega,qbT (xs:=xs) (k:=j + 1) (by omega)]
  have s_M8:=sN hc5 (.lst (xs.drop (j + 1)))
  have g_c5:upd M7 c5 (.lst (xs.drop (j + 1))) c5=some (.lst (xs.drop (j + 1))):=uS
  generalize upd M7 c5 (.lst (xs.drop (j + 1)))=M8 at s_M8 g_c5 ⊢
  refine ⟨c4,c5,_,_,rfl,rfl,s_M8 _ _ g_c4,g_c5,by rw [sizeLine_eq,List.length_take,List.length_drop]; omega,fun c6 hc6=>?_⟩
  have s_M9:=sN hc6 (.lst (xs.take j ++ xs.drop (j + 1)))
  have g_c6:upd M8 c6 (.lst (xs.take j ++ xs.drop (j + 1))) c6=some (.lst (xs.take j ++ xs.drop (j + 1))):=uS
  generalize upd M8 c6 (.lst (xs.take j ++ xs.drop (j + 1)))=M9 at s_M9 g_c6 ⊢
  have s19:=s16.trans (s_M7.trans (s_M8.trans s_M9))
  have jw:j < ws.length:=by omega
  have e5:=qb6 (ws.take j) (ws.drop j)
  rw [List.take_append_drop,List.drop_eq_getElem_cons jw,qbt] at e5
  have e6:=qb6 (ws.take j) (ws.drop (j + 1))
  have e7:=posA _ (List.getElem_mem jw)
  refine ⟨.ref c6,.list ((ws.take j ++ ws.drop (j + 1)).map (dW W)),rfl,.lst g_c6 (by rw [List.map_append,List.map_drop,List.map_take]; exact qjm (qfl _ (qam.same s19 dl)) (qfm _ (qam.same s19 dl))),fitA _ (by rw [List.length_append,List.length_take,List.length_drop]; omega) (fun p hp=>(List.mem_append.mp hp).elim List.mem_of_mem_take List.mem_of_mem_drop) (by omega),fun Ma sMa=>?_⟩
  rw [qcn W0 (by omega)]
  refine ⟨_,rfl,iteF ?_⟩
  refine ⟨lz 2 rfl,fun u1 hu1=>?_⟩
  have s_N1:=sN hu1 (.tup [.int 50,.int 0])
  have g_u1:upd Ma u1 (.tup [.int 50,.int 0]) u1=some (.tup [.int 50,.int 0]):=uS
  generalize upd Ma u1 (.tup [.int 50,.int 0])=N1 at s_N1 g_u1 ⊢
  refine ⟨lz 2 rfl,fun u2 hu2=>?_⟩
  have s_N2:=sN hu2 (.tup [.int 1,.int 1])
  have g_u2:upd N1 u2 (.tup [.int 1,.int 1]) u2=some (.tup [.int 1,.int 1]):=uS
  generalize upd N1 u2 (.tup [.int 1,.int 1])=N2 at s_N2 g_u2 ⊢
  refine ⟨lz 2 rfl,fun u3 hu3=>?_⟩
  have s_N3:=sN hu3 (.tup [.ref u1,.ref u2])
  have g_u3:upd N2 u3 (.tup [.ref u1,.ref u2]) u3=some (.tup [.ref u1,.ref u2]):=uS
  generalize upd N2 u3 (.tup [.ref u1,.ref u2])=N3 at s_N3 g_u3 ⊢
  refine ⟨lz 1 rfl,fun u4 hu4=>?_⟩
  have s_N4:=sN hu4 (.lst [.ref u3])
  have g_u4:upd N3 u4 (.lst [.ref u3]) u4=some (.lst [.ref u3]):=uS
  generalize upd N3 u4 (.lst [.ref u3])=N4 at s_N4 g_u4 ⊢
  have g_u1:=(s_N2.trans (s_N3.trans s_N4)) _ _ g_u1
  have g_u2:=(s_N3.trans s_N4) _ _ g_u2
  have g_u3:=(s_N4) _ _ g_u3
  have dOne:qaP N4 (.ref u4) (.list ([([50,0],1)].map (dW 1))) := .lst g_u4 (.cons (.tup g_u3 (.cons (.tup g_u1 (.cons (.int _) (.cons (.int _) .nil))) (.cons (.tup g_u2 (.cons (.int _) (.cons (.int _) .nil))) .nil))) .nil)
  have f1:FitV ([([50,0],1)].map (dW 1)):=qjl (by decide) (by decide) (by decide) (by decide) (by decide) (by decide)
  refine ⟨_,_,rfl,dOne,fun ds e=>by cases e; exact f1,fun N5 sN5=>?_⟩
  rw [show qaE (.list ([([50,0],1)].map (dW 1)))=true by decide +kernel]
  refine ⟨_,rfl,iteT ⟨(by show 0≤sizeLine; decide),fun u5 hu5=>?_⟩⟩
  have s_N6:=sN hu5 (.lst [])
  have g_u5:upd N5 u5 (.lst []) u5=some (.lst []):=uS
  generalize upd N5 u5 (.lst [])=N6 at s_N6 g_u5 ⊢
  refine ⟨_,.list [],rfl,.lst g_u5 .nil,fun ds e=>by cases e; exact f0,fun N7 sN7=>?_⟩
  exact ⟨_,rfl,k _⟩
end
end My
namespace My
open PySem L2 MA
theorem ar1 {C:List Value->Prop}(h:∀ a0,C [a0]):∀ us:List Value,us.length=1->C us
 | [a0],_=>h a0
theorem ar2 {C:List Value->Prop}(h:∀ a0 a1,C [a0,a1]):∀ us:List Value,us.length=2->C us
 | [a0,a1],_=>h a0 a1
theorem ar3 {C:List Value->Prop}(h:∀ a0 a1 a2,C [a0,a1,a2]):∀ us:List Value,us.length=3->C us
 | [a0,a1,a2],_=>h a0 a1 a2
structure Funs (K:PySem.W.Frag)(mg:Str->Option Value):Prop where
 f_is_whole:FunAt K mg "is_whole" ["thing"] s_is_whole
 f_is_load:FunAt K mg "is_load" ["thing"] s_is_load
 f_measure:FunAt K mg "measure" ["a", "b"] s_measure
 f_is_share:FunAt K mg "is_share" ["thing"] s_is_share
 f_plus:FunAt K mg "plus" ["a", "b"] s_plus
 f_total:FunAt K mg "total" ["some"] s_total
 f_is_spread:FunAt K mg "is_spread" ["thing"] s_is_spread
 f_are_alike:FunAt K mg "are_alike" ["loads"] s_are_alike
 f_are_rising:FunAt K mg "are_rising" ["things"] s_are_rising
 f_are_one:FunAt K mg "are_one" ["things"] s_are_one
 f_l_pen:FunAt K mg "_law_pen" ["_law_script"] s_l_pen
 f_l_draw:FunAt K mg "_law_draw" ["_law_pen_here", "_law_many"] s_l_draw
 f_l_measure:FunAt K mg "_law_measure" ["_law_a", "_law_b"] s_l_measure
 f_l_lowest:FunAt K mg "_law_lowest" ["_law_top", "_law_bottom"] s_l_lowest
 f_l_load:FunAt K mg "_law_load" ["_law_pen_here", "_law_n", "_law_balls"] s_l_load
 f_l_counted:FunAt K mg "_law_counted" ["_law_pen_here", "_law_n", "_law_balls"] s_l_counted
 f_l_spread:FunAt K mg "_law_spread" ["_law_found"] s_l_spread
 f_l_is_share:FunAt K mg "_law_is_share" ["_law_thing"] s_l_is_share
 f_l_are_one:FunAt K mg "_law_are_one" ["_law_some"] s_l_are_one
 f_l_is_load:FunAt K mg "_law_is_load" ["_law_thing"] s_l_is_load
 f_l_due:FunAt K mg "_law_due" ["_law_thing"] s_l_due
 f_l_all:FunAt K mg "_law_all" ["_law_n", "_law_balls", "_law_most"] s_l_all
 f_l_odd_load:FunAt K mg "_law_odd_load" ["_law_pen_here", "_law_load_here"] s_l_odd_load
 f_l_odd_share:FunAt K mg "_law_odd_share" ["_law_pen_here", "_law_one"] s_l_odd_share
 f_l_spoilt:FunAt K mg "_law_spoilt" ["_law_pen_here", "_law_spread_here"] s_l_spoilt
theorem all_mk {l:PySem.W.OpenLaw}{w:World}{K:PySem.W.Frag}{h:Heap}{mg:Str->Option Value}{fa f3:Addr}(X:K.In h)(G:h.Ns mainGlobals mg)(hfa:mg "law" = some (.ref fa))
  {od3 an3:Option Addr} {sl3:Array (Option Value)} {oc3 kV3 dc3 pm3 cd3 ct3:Value} (T:Txt2 mg) (FA:Funs K mg) {tk_MOST_BOXES:Tok} (h_MOST_BOXES:mg "MOST_BOXES" = some (.int 6 tk_MOST_BOXES))
  (a3:PySem.W.nsIn K mainGlobals "law" = some (some (.ref f3))) (l3:K.lookup f3=some ⟨oc3,od3,.func (PySem.W.fnOf "law" "law" (qbN qdP) (qbs qdP) (qad qdP) .none kV3 dc3 pm3 an3 cd3 ct3),sl3⟩) (c3:PySem.W.codeIn K cd3 "law" = true) (k3:PySem.W.keepIn K (.ref f3)=true) :
  ∃ fd:FuncData,(∀ (s:Shared) (v:Value),BindsTo s fd ⟨[v],[]⟩ [("_law_script",v)])/\∀ base:Heap,K.In base->base.Ns mainGlobals mg->FnOk l.prog w K mg base CX0 8 fa fd ["_law_script"] (qii K):=by
 have e:=hfa.symm.trans (PySem.W.mg_of X G a3)
 cases e
 have F3:=qjk (st:=qdP) l3 c3 k3
 refine ⟨PySem.W.fnOf "law" "law" (qbN qdP) (qbs qdP) (qad qdP) .none kV3 dc3 pm3 an3 cd3 ct3,fun s v => .of_eq rfl,fun base _ _=>?_⟩
 have c_measure:=qga (P:=l.prog) (w:=w) (base:=base) T.toTxt FA.f_measure
 have c_plus:=qka c_measure FA.f_plus
 have c_total:=qiy c_plus FA.f_total
 have c_whole:=qg9 (P:=l.prog) (w:=w) (base:=base) T FA.f_is_whole
 have c_isshare:=qe6 T c_whole c_measure FA.f_is_share
 have c_isload:=qhd T h_MOST_BOXES c_whole FA.f_is_load
 have c_alike:=qiB (P:=l.prog) (w:=w) (base:=base) T FA.f_are_alike
 have c_rising:=qhb (P:=l.prog) (w:=w) (base:=base) T FA.f_are_rising
 have c_one:=qhe T c_isshare c_total FA.f_are_one
 have c_isspread:=qe5 T c_isload c_alike c_rising c_one FA.f_is_spread
 have c_pen:=qlh (P:=l.prog) (w:=w) (base:=base) FA.f_l_pen
 have c_draw:=qiA (P:=l.prog) (w:=w) (base:=base) T.toTxt FA.f_l_draw
 have c_lmeasure:=qe3 (P:=l.prog) (w:=w) (base:=base) FA.f_l_measure
 have c_lowest:=qhc c_lmeasure FA.f_l_lowest
 have c_load:=qiz T c_draw FA.f_l_load
 have c_counted:=qge T c_draw c_load FA.f_l_counted
 have c_lspread:=qgb T c_lowest FA.f_l_spread
 have c_lisshare:=qe4 T c_lmeasure FA.f_l_is_share
 have c_lareone:=qgd c_lowest FA.f_l_are_one
 have c_lisload:=qgc (P:=l.prog) (w:=w) (base:=base) T FA.f_l_is_load
 have c_due:=qlj T c_lisload c_lisshare c_lareone FA.f_l_due
 have c_all0:=qkd (P:=l.prog) (w:=w) (base:=base) FA.f_l_all
 have c_all1:=qcu (N:=0) T FA.f_l_all c_all0
 have c_all2:=qcu (N:=1) T FA.f_l_all c_all1
 have c_all3:=qcu (N:=2) T FA.f_l_all c_all2
 have c_all4:=qcu (N:=3) T FA.f_l_all c_all3
 have c_all5:=qcu (N:=4) T FA.f_l_all c_all4
 have c_all6:=qcu (N:=5) T FA.f_l_all c_all5
 have c_oddl:=qkc T c_draw FA.f_l_odd_load
 have c_odds:=qkb T c_draw FA.f_l_odd_share
 have c_spoilt:=qha T c_draw c_oddl c_odds c_lowest FA.f_l_spoilt
 exact qli T c_pen c_draw c_counted c_lspread c_spoilt c_due c_isspread c_all6 F3
theorem walk {l:PySem.W.OpenLaw}{q:Program}{loose:List Str}{XP:(Str->Option Value)->Heap->Prop}{YP:World->Heap->Prop}{d:DefRec}{K:Params->PySem.W.Frag}(hn:l.most=some 63)(hdf:d.params.defaults=[])
  (hY:∀ (w:World) (h:Heap),YP w h->(K w.params).In h)
  (F:∀ (w:World) (mg:Str->Option Value) (fa:Addr) (h:Heap),(K w.params).In h->h.Ns mainGlobals mg->mg d.name=some (.ref fa) ->
    ∃ fd:FuncData,(∀ (s:Shared) (u:Value),BindsTo s fd ⟨[u],[]⟩ [("_law_script",u)])/\∀ base:Heap,(K w.params).In base->base.Ns mainGlobals mg->FnOk l.prog w (K w.params) mg base CX0 8 fa fd ["_law_script"] (qii (K w.params))) :
  PySem.W.WalkO q loose XP YP l.row.toRowW d [] (fun f vs=>PySem.call f vs) :=
 L2.walk_of (n:=63) (k:=8) (x := "_law_script") (CX:=fun _=>CX0) (sp:=fun w=>qii (K w.params)) hn (by decide) hdf ⟨rfl,by decide,by decide,rfl⟩ hY F (fun _ _ a ns hl _ hS=>⟨a,ns,rfl,hS,hl,fun _=>rfl⟩) fun _ _ _ _ _ z=>z
theorem mr_MOST_BOXES {K:PySem.W.Frag}{h:Heap}{mg:Str->Option Value}{tk:Tok}(X:K.In h)(G:h.Ns mainGlobals mg)(a:PySem.W.nsIn K mainGlobals "MOST_BOXES" = some (some (.int 6 tk))):∃ tk:Tok,mg "MOST_BOXES" = some (.int 6 tk):=⟨tk,PySem.W.mg_of X G a⟩
theorem txt_mk {K:PySem.W.Frag}{h:Heap}{mg:Str->Option Value}(X:K.In h)(G:h.Ns mainGlobals mg)
  (z_abs:PySem.W.nsIn K mainGlobals "abs" = some none)
  (z_len:PySem.W.nsIn K mainGlobals "len" = some none)
  (z_isinstance:PySem.W.nsIn K mainGlobals "isinstance" = some none)
  (z_range:PySem.W.nsIn K mainGlobals "range" = some none)
  (z_int:PySem.W.nsIn K mainGlobals "int" = some none)
  (z_bool:PySem.W.nsIn K mainGlobals "bool" = some none)
  (z_tuple:PySem.W.nsIn K mainGlobals "tuple" = some none)
  (z_list:PySem.W.nsIn K mainGlobals "list" = some none)
  (z_all:PySem.W.nsIn K mainGlobals "all" = some none)
  (z_str:PySem.W.nsIn K mainGlobals "str" = some none)
  (z_repr:PySem.W.nsIn K mainGlobals "repr" = some none)
  (z_dict:PySem.W.nsIn K mainGlobals "dict" = some none)
  (z_sum:PySem.W.nsIn K mainGlobals "sum" = some none)
  (z_sorted:PySem.W.nsIn K mainGlobals "sorted" = some none)
  (z_max:PySem.W.nsIn K mainGlobals "max" = some none)
  (z_min:PySem.W.nsIn K mainGlobals "min" = some none)
  (z_any:PySem.W.nsIn K mainGlobals "any" = some none)
  (z_enumerate:PySem.W.nsIn K mainGlobals "enumerate" = some none)
  (z_zip:PySem.W.nsIn K mainGlobals "zip" = some none)
  (z_set:PySem.W.nsIn K mainGlobals "set" = some none)
  (z_reversed:PySem.W.nsIn K mainGlobals "reversed" = some none)
  (z_ValueError:PySem.W.nsIn K mainGlobals "ValueError" = some none)
  : Txt2 mg:=⟨⟨PySem.W.mg_none_of X G z_abs,PySem.W.mg_none_of X G z_len,PySem.W.mg_none_of X G z_isinstance,PySem.W.mg_none_of X G z_range,PySem.W.mg_none_of X G z_int,PySem.W.mg_none_of X G z_bool,PySem.W.mg_none_of X G z_tuple,PySem.W.mg_none_of X G z_list,PySem.W.mg_none_of X G z_all⟩,PySem.W.mg_none_of X G z_str,PySem.W.mg_none_of X G z_repr,PySem.W.mg_none_of X G z_dict,PySem.W.mg_none_of X G z_sum,PySem.W.mg_none_of X G z_sorted,PySem.W.mg_none_of X G z_max,PySem.W.mg_none_of X G z_min,PySem.W.mg_none_of X G z_any,PySem.W.mg_none_of X G z_enumerate,PySem.W.mg_none_of X G z_zip,PySem.W.mg_none_of X G z_set,PySem.W.mg_none_of X G z_reversed,PySem.W.mg_none_of X G z_ValueError⟩
end My
open PySem PySem.W PyProof.Rows
set_option maxRecDepth 100000 in
set_option maxHeartbeats 0 in
theorem PySem.Challenge.cw_emptierbox_k17_what_is_a_spread_holds : PySem.Challenge.rw_emptierbox_k17_what_is_a_spread.Holds := by
 refine My.hd ?_
 k_fill
 refine My.walk (l:=PySem.Challenge.rw_emptierbox_k17_what_is_a_spread) rfl rfl (fun w h Y=>PySem.W.kIn_of Y) ?F
 case F =>
  intro w mg fa h KX G hmg
  have T:My.Txt2 mg:=by
   refine' My.txt_mk KX G ?z0 ?z1 ?z2 ?z3 ?z4 ?z5 ?z6 ?z7 ?z8 ?z9 ?z10 ?z11 ?z12 ?z13 ?z14 ?z15 ?z16 ?z17 ?z18 ?z19 ?z20 ?z21
   case z0 | z1 | z2 | z3 | z4 | z5 | z6 | z7 | z8 | z9 | z10 | z11 | z12 | z13 | z14 | z15 | z16 | z17 | z18 | z19 | z20 | z21=>k_is
  have f_is_whole:L2.FunAt (L2.KOf KX) mg "is_whole" ["thing"] My.s_is_whole:=by
   dsimp only [L2.KOf]
   refine' L2.funAt_mk KX G (fun _ _ _ _ _ _=>My.ar1 fun _=>rfl) ?a ?l ?c ?k
   case a | l | c | k=>k_is
  have f_is_load:L2.FunAt (L2.KOf KX) mg "is_load" ["thing"] My.s_is_load:=by
   dsimp only [L2.KOf]
   refine' L2.funAt_mk KX G (fun _ _ _ _ _ _=>My.ar1 fun _=>rfl) ?a ?l ?c ?k
   case a | l | c | k=>k_is
  have f_measure:L2.FunAt (L2.KOf KX) mg "measure" ["a", "b"] My.s_measure:=by
   dsimp only [L2.KOf]
   refine' L2.funAt_mk KX G (fun _ _ _ _ _ _=>My.ar2 fun _ _=>rfl) ?a ?l ?c ?k
   case a | l | c | k=>k_is
  have f_is_share:L2.FunAt (L2.KOf KX) mg "is_share" ["thing"] My.s_is_share:=by
   dsimp only [L2.KOf]
   refine' L2.funAt_mk KX G (fun _ _ _ _ _ _=>My.ar1 fun _=>rfl) ?a ?l ?c ?k
   case a | l | c | k=>k_is
  have f_plus:L2.FunAt (L2.KOf KX) mg "plus" ["a", "b"] My.s_plus:=by
   dsimp only [L2.KOf]
   refine' L2.funAt_mk KX G (fun _ _ _ _ _ _=>My.ar2 fun _ _=>rfl) ?a ?l ?c ?k
   case a | l | c | k=>k_is
  have f_total:L2.FunAt (L2.KOf KX) mg "total" ["some"] My.s_total:=by
   dsimp only [L2.KOf]
   refine' L2.funAt_mk KX G (fun _ _ _ _ _ _=>My.ar1 fun _=>rfl) ?a ?l ?c ?k
   case a | l | c | k=>k_is
  have f_is_spread:L2.FunAt (L2.KOf KX) mg "is_spread" ["thing"] My.s_is_spread:=by
   dsimp only [L2.KOf]
   refine' L2.funAt_mk KX G (fun _ _ _ _ _ _=>My.ar1 fun _=>rfl) ?a ?l ?c ?k
   case a | l | c | k=>k_is
  have f_are_alike:L2.FunAt (L2.KOf KX) mg "are_alike" ["loads"] My.s_are_alike:=by
   dsimp only [L2.KOf]
   refine' L2.funAt_mk KX G (fun _ _ _ _ _ _=>My.ar1 fun _=>rfl) ?a ?l ?c ?k
   case a | l | c | k=>k_is
  have f_are_rising:L2.FunAt (L2.KOf KX) mg "are_rising" ["things"] My.s_are_rising:=by
   dsimp only [L2.KOf]
   refine' L2.funAt_mk KX G (fun _ _ _ _ _ _=>My.ar1 fun _=>rfl) ?a ?l ?c ?k
   case a | l | c | k=>k_is
  have f_are_one:L2.FunAt (L2.KOf KX) mg "are_one" ["things"] My.s_are_one:=by
   dsimp only [L2.KOf]
   refine' L2.funAt_mk KX G (fun _ _ _ _ _ _=>My.ar1 fun _=>rfl) ?a ?l ?c ?k
   case a | l | c | k=>k_is
  have f_l_pen:L2.FunAt (L2.KOf KX) mg "_law_pen" ["_law_script"] My.s_l_pen:=by
   dsimp only [L2.KOf]
   refine' L2.funAt_mk KX G (fun _ _ _ _ _ _=>My.ar1 fun _=>rfl) ?a ?l ?c ?k
   case a | l | c | k=>k_is
  have f_l_draw:L2.FunAt (L2.KOf KX) mg "_law_draw" ["_law_pen_here", "_law_many"] My.s_l_draw:=by
   dsimp only [L2.KOf]
   refine' L2.funAt_mk KX G (fun _ _ _ _ _ _=>My.ar2 fun _ _=>rfl) ?a ?l ?c ?k
   case a | l | c | k=>k_is
  have f_l_measure:L2.FunAt (L2.KOf KX) mg "_law_measure" ["_law_a", "_law_b"] My.s_l_measure:=by
   dsimp only [L2.KOf]
   refine' L2.funAt_mk KX G (fun _ _ _ _ _ _=>My.ar2 fun _ _=>rfl) ?a ?l ?c ?k
   case a | l | c | k=>k_is
  have f_l_lowest:L2.FunAt (L2.KOf KX) mg "_law_lowest" ["_law_top", "_law_bottom"] My.s_l_lowest:=by
   dsimp only [L2.KOf]
   refine' L2.funAt_mk KX G (fun _ _ _ _ _ _=>My.ar2 fun _ _=>rfl) ?a ?l ?c ?k
   case a | l | c | k=>k_is
  have f_l_load:L2.FunAt (L2.KOf KX) mg "_law_load" ["_law_pen_here", "_law_n", "_law_balls"] My.s_l_load:=by
   dsimp only [L2.KOf]
   refine' L2.funAt_mk KX G (fun _ _ _ _ _ _=>My.ar3 fun _ _ _=>rfl) ?a ?l ?c ?k
   case a | l | c | k=>k_is
  have f_l_counted:L2.FunAt (L2.KOf KX) mg "_law_counted" ["_law_pen_here", "_law_n", "_law_balls"] My.s_l_counted:=by
   dsimp only [L2.KOf]
   refine' L2.funAt_mk KX G (fun _ _ _ _ _ _=>My.ar3 fun _ _ _=>rfl) ?a ?l ?c ?k
   case a | l | c | k=>k_is
  have f_l_spread:L2.FunAt (L2.KOf KX) mg "_law_spread" ["_law_found"] My.s_l_spread:=by
   dsimp only [L2.KOf]
   refine' L2.funAt_mk KX G (fun _ _ _ _ _ _=>My.ar1 fun _=>rfl) ?a ?l ?c ?k
   case a | l | c | k=>k_is
  have f_l_is_share:L2.FunAt (L2.KOf KX) mg "_law_is_share" ["_law_thing"] My.s_l_is_share:=by
   dsimp only [L2.KOf]
   refine' L2.funAt_mk KX G (fun _ _ _ _ _ _=>My.ar1 fun _=>rfl) ?a ?l ?c ?k
   case a | l | c | k=>k_is
  have f_l_are_one:L2.FunAt (L2.KOf KX) mg "_law_are_one" ["_law_some"] My.s_l_are_one:=by
   dsimp only [L2.KOf]
   refine' L2.funAt_mk KX G (fun _ _ _ _ _ _=>My.ar1 fun _=>rfl) ?a ?l ?c ?k
   case a | l | c | k=>k_is
  have f_l_is_load:L2.FunAt (L2.KOf KX) mg "_law_is_load" ["_law_thing"] My.s_l_is_load:=by
   dsimp only [L2.KOf]
   refine' L2.funAt_mk KX G (fun _ _ _ _ _ _=>My.ar1 fun _=>rfl) ?a ?l ?c ?k
   case a | l | c | k=>k_is
  have f_l_due:L2.FunAt (L2.KOf KX) mg "_law_due" ["_law_thing"] My.s_l_due:=by
   dsimp only [L2.KOf]
   refine' L2.funAt_mk KX G (fun _ _ _ _ _ _=>My.ar1 fun _=>rfl) ?a ?l ?c ?k
   case a | l | c | k=>k_is
  have f_l_all:L2.FunAt (L2.KOf KX) mg "_law_all" ["_law_n", "_law_balls", "_law_most"] My.s_l_all:=by
   dsimp only [L2.KOf]
   refine' L2.funAt_mk KX G (fun _ _ _ _ _ _=>My.ar3 fun _ _ _=>rfl) ?a ?l ?c ?k
   case a | l | c | k=>k_is
  have f_l_odd_load:L2.FunAt (L2.KOf KX) mg "_law_odd_load" ["_law_pen_here", "_law_load_here"] My.s_l_odd_load:=by
   dsimp only [L2.KOf]
   refine' L2.funAt_mk KX G (fun _ _ _ _ _ _=>My.ar2 fun _ _=>rfl) ?a ?l ?c ?k
   case a | l | c | k=>k_is
  have f_l_odd_share:L2.FunAt (L2.KOf KX) mg "_law_odd_share" ["_law_pen_here", "_law_one"] My.s_l_odd_share:=by
   dsimp only [L2.KOf]
   refine' L2.funAt_mk KX G (fun _ _ _ _ _ _=>My.ar2 fun _ _=>rfl) ?a ?l ?c ?k
   case a | l | c | k=>k_is
  have f_l_spoilt:L2.FunAt (L2.KOf KX) mg "_law_spoilt" ["_law_pen_here", "_law_spread_here"] My.s_l_spoilt:=by
   dsimp only [L2.KOf]
   refine' L2.funAt_mk KX G (fun _ _ _ _ _ _=>My.ar2 fun _ _=>rfl) ?a ?l ?c ?k
   case a | l | c | k=>k_is
  have h_MOST_BOXES:∃ tk:Tok,mg "MOST_BOXES" = some (.int 6 tk):=by
   refine' My.mr_MOST_BOXES KX G ?a
   (case a=>first | k_is | exact rfl)
  obtain ⟨tk_MOST_BOXES,h_MOST_BOXES⟩:=h_MOST_BOXES
  refine' My.all_mk KX G hmg T ⟨f_is_whole,f_is_load,f_measure,f_is_share,f_plus,f_total,f_is_spread,f_are_alike,f_are_rising,f_are_one,f_l_pen,f_l_draw,f_l_measure,f_l_lowest,f_l_load,f_l_counted,f_l_spread,f_l_is_share,f_l_are_one,f_l_is_load,f_l_due,f_l_all,f_l_odd_load,f_l_odd_share,f_l_spoilt⟩ h_MOST_BOXES ?a3 ?l3 ?c3 ?k3
  (case a3=>k_is); (case l3=>k_is); (case c3=>k_is); (case k3=>k_is)

