import PyProof.Rows.All
import KE.KRevIter
import PyProof.FactsAll.range_2
import Wide.All
import OpenK.AllK
import Wide.FinOn
import PyProof.EqAt
import PyProof.EqKinds
import PyProof.NeKinds
import PyProof.TupleCall
import PyProof.CompFree
import PyProof.CompMap
import PyProof.ReprRoads
import PyProof.CallFns
import PyProof.ReprBulk
import PyProof.CompUse
import KE.KRevSl
import PyProof.Rows.SetFrom
import PyProof.AttrMissSeq
import KE.KDictOf
import PyProof.DictUpdate
import PyProof.ListRange
import PyProof.Rows.SumAny
import PyProof.Rows.SortRev
import PyProof.Rows.CallKwBuiltin
import PyProof.ListMulAny
import PyProof.TupleOps
import PyProof.ZipIter
import PyProof.Draws
import PyProof.TupleIter
import PyProof.EnumMake
import PyProof.DictCompW
import PyProof.DictItems
import PyProof.DictItemsLoops
import PyProof.ExcAttrAll.ValueError
import KE.KTryMore
import KE.KLam
import KE.KTupSum
import KE.KMinKey
import PyProof.FactsAll.tuple_0
import PyProof.FactsAll.tuple_2
import PyProof.FactsAll.tuple_3
import KE.KSortTup
import PyProof.DictValues
import PyProof.DictWalks
import PyProof.SumWalkG
import PyProof.CollectWalk
import PyProof.FactsAll.dict_values
import KE.KDictList
import KE.KItemsList
import PyProof.TupleKey
import PyProof.DictDisplay
import PyProof.DictTable
import PyProof.ReprDict
import PyProof.ReprNest
import PyProof.ReprReads
import PySem.Challenge.RW_emptierbox_k42_whole_layers_bound_the_fu
set_option Elab.async false
set_option linter.all false
set_option maxRecDepth 100000
set_option maxHeartbeats 0
local macro_rules | `(tactic| ext) => `(tactic| first|rfl|decide|exact .inl rfl|exact .inr rfl|(intros; rfl))
local macro_rules | `(⋯) => `((by ext))
namespace L2
open PySem PySem.W PyProof.Rows
theorem headK {r:OpenRow}{q:Program}{H:Hook}{N:Nat}{d:DefRec}
  (top:LeftO r.prog q [] (fun s=>xlAt q [] s && recOk r.toRowW.records s) H.obs H.val N)
  (at0:defOf q r.name=some (d,[])) (here:r.prog.theDef r.name=some (d.params,d.body,d.scope)) (kwd:kwWritten? d.params.kwonlyargs d.params.kw_defaults=some [])
  (writ:(!r.writes || r.records.isEmpty)=true) (said:r.wellSaid=true) (looks:(chainsOk q && opensWell r.prog && (frees r.toRowW && r.within.isEmpty))=true) (bare:r.prog.bare)
  (prom:r.toRowW.promised) (walk:WalkO q [] (XL q []) H.says r.toRowW d [] fun f vs=>PySem.call f vs):r.Holds :=
 holds_open top H.of H.keeps (fun s e=>xl_of s (Bool.and_eq_true_iff.mp e).1) XL.keeps at0 here kwd (fun s e=>recFacts_of (Bool.and_eq_true_iff.mp e).2) writ said looks bare prom walk
end L2
def My.topv (i:Nat):PySem.Stmt:=PySem.Challenge.pw_emptierbox_k42_whole_layers_bound_the_fu.main.body.getD i (.Pass ⟨0,0,0,0⟩)
noncomputable def My.qv:PySem.Program:={ PySem.Challenge.pw_emptierbox_k42_whole_layers_bound_the_fu with main:={ PySem.Challenge.pw_emptierbox_k42_whole_layers_bound_the_fu.main with body:=[My.topv 1,My.topv 2,My.topv 3,My.topv 5,My.topv 6,My.topv 7,My.topv 9,My.topv 11,My.topv 12,My.topv 13,My.topv 14,My.topv 16,My.topv 17,My.topv 18,My.topv 19,My.topv 21,My.topv 22,My.topv 24,My.topv 25,My.topv 26,My.topv 27,My.topv 28,My.topv 29,My.topv 30,My.topv 31,My.topv 33,My.topv 34,My.topv 35,My.topv 36,My.topv 37,My.topv 38,My.topv 39,My.topv 40,My.topv 41,My.topv 42,My.topv 43,My.topv 44,My.topv 45] } }
section
open PySem PySem.W PyProof.Rows
local macro_rules | `(tactic| o_head $H)=>do
 let hw:=Lean.mkIdent `hw
 let hc:=Lean.mkIdent `hc
 `(tactic| (refine L2.headK (q:=My.qv) (H:=$H) (N:=9000) ?_ rfl rfl rfl rfl (by assumption) (by decide +kernel) ⟨rfl,rfl,rfl,rfl,rfl,by decide +kernel⟩ ?$hw ?$hc; (focus intro w; kernel_rfl)))
open_top My.hd for PySem.Challenge.rw_emptierbox_k42_whole_layers_bound_the_fu
end
namespace MA
def gI (a b:Int):Int:=(Int.gcd a b:Int)
theorem qmY (a b:Int):gI (if a < 0 then -a else a) (if b < 0 then -b else b)=gI a b:=by
 unfold gI Int.gcd
 congr 2 <;> (split <;> omega)
theorem qiL {a b:Int}(ha:0≤a):gI b (a % b)=gI a b:=by
 unfold gI
 congr 1
 rw [Int.gcd_comm a b]
 unfold Int.gcd
 have e:(a % b).natAbs=a.natAbs % b.natAbs:=by
  rw [Int.natAbs_emod_of_nonneg ha]
 rw [e,Nat.gcd_comm b.natAbs (a.natAbs % b.natAbs),<- Nat.gcd_rec]
theorem qiK {a:Int}(ha:0≤a):gI a 0=a:=by
 unfold gI
 rw [Int.gcd_zero_right]
 omega
theorem qay {a b:Int}(hb:b≠0):0 < gI a b:=by
 have h:Int.gcd a b≠0:=fun h=>hb (Int.gcd_eq_zero_iff.mp h).2
 unfold gI; omega
theorem qfP {a b:Int}(hb:a≠0):0 < gI a b:=by
 have h:Int.gcd a b≠0:=fun h=>hb (Int.gcd_eq_zero_iff.mp h).1
 unfold gI; omega
theorem qbk (a b:Int):gI a b ∣ a:=Int.gcd_dvd_left ..
theorem qaV (a b:Int):gI a b ∣ b:=Int.gcd_dvd_right ..
theorem ql4 (a b:Int):gI a b=gI b a:=by unfold gI; rw [Int.gcd_comm]
theorem qbI {t b:Int}(hb:0 < b):t / gI t b=(Rat.divInt t b).num/\b / gI t b=((Rat.divInt t b).den:Int):=by
 rw [Rat.num_divInt,Rat.den_divInt,if_neg (by omega),Int.sign_eq_one_of_pos hb,Int.one_mul,Int.gcd_comm b t]
 refine ⟨rfl,?_⟩
 unfold gI
 rw [Int.natCast_ediv]
 congr 1
 omega
end MA
namespace L2
open PySem PySem.Spec PyProof.Rows
abbrev Key:=Sum Int Str
def qeU:Key->Value->Bool
 | .inl k,v=>Value.isInt k v
 | .inr x,v=>Value.isStrOf x v
def keyH (w:World):Key->Int
 | .inl k=>hashInt k
 | .inr x=>hashStr w x
theorem qaC:∀ {k:Key} {v:Value},qeU k v=true->(∃ i t,k=Sum.inl i/\v=Value.int i t)\/(∃ x t,k=Sum.inr x/\v=Value.str x t)
 | .inl i,v,h=>by
  obtain ⟨t,e⟩:=Value.isInt_shape (k:=i) (v:=v) h
  exact .inl ⟨i,t,rfl,e⟩
 | .inr x,v,h=>by
  obtain ⟨t,e⟩:=Value.isStrOf_shape (x:=x) (v:=v) h
  exact .inr ⟨x,t,rfl,e⟩
theorem qiB (i:Int)(t:Tok):qeU (.inl i) (.int i t)=true:=by simp [qeU,Value.isInt]
theorem qiA (x:Str)(t:Tok):qeU (.inr x) (.str x t)=true:=by simp [qeU,Value.isStrOf]
theorem qmP (a b:Int):decide ((Sum.inl a:Key)=Sum.inl b)=(a == b):=by
 by_cases e:a=b
 ·subst e; simp
 ·have h:¬ (Sum.inl a:Key)=Sum.inl b:=fun q=>e (Sum.inl.inj q)
  rw [decide_eq_false h]
  exact (beq_eq_false_iff_ne.mpr e).symm
theorem qmM (a b:Str):decide ((Sum.inr a:Key)=Sum.inr b)=decide (a=b):=by
 by_cases e:a=b
 ·subst e; simp
 ·have h:¬ (Sum.inr a:Key)=Sum.inr b:=fun q=>e (Sum.inr.inj q)
  rw [decide_eq_false h,decide_eq_false e]
theorem qmO (a:Int)(b:Str):decide ((Sum.inl a:Key)=Sum.inr b)=false:=decide_eq_false (fun q=>nomatch q)
theorem qmN (a:Str)(b:Int):decide ((Sum.inr a:Key)=Sum.inl b)=false:=decide_eq_false (fun q=>nomatch q)
def qap (prog:Program)(w:World):PySem.KeyKind prog w Key where
 is:=qeU
 hash:=keyH w
 inj:=fun v a b ha hb=>by
  rcases qaC ha with ⟨i,t,rfl,rfl⟩ | ⟨x,t,rfl,rfl⟩
  ·rcases qaC hb with ⟨j,u,rfl,e⟩ | ⟨y,u,rfl,e⟩
   ·injection e with e1 _; rw [e1]
   ·exact nomatch e
  ·rcases qaC hb with ⟨j,u,rfl,e⟩ | ⟨y,u,rfl,e⟩
   ·exact nomatch e
   ·injection e with e1 _; rw [e1]
 byValue:=fun k v h=>by
  rcases qaC h with ⟨i,t,rfl,rfl⟩ | ⟨x,t,rfl,rfl⟩ <;> rfl
 pyHash:=fun hv h=>by
  rcases qaC hv with ⟨i,t,rfl,rfl⟩ | ⟨x,t,rfl,rfl⟩
  ·exact wpAny_pyHash_int h
  ·exact wpAny_pyHash_str h
 eqBool:=fun hu hv h=>by
  rcases qaC hu with ⟨i,t,rfl,rfl⟩ | ⟨x,t,rfl,rfl⟩
  ·rcases qaC hv with ⟨j,u,rfl,rfl⟩ | ⟨y,u,rfl,rfl⟩
   ·rw [qmP] at h; exact wpAny_eqBool_int h
   ·rw [qmO] at h; exact SeqAt.EqAt.int_str i t y u _ _ _ _ h
  ·rcases qaC hv with ⟨j,u,rfl,rfl⟩ | ⟨y,u,rfl,rfl⟩
   ·rw [qmN] at h; exact SeqAt.EqAt.str_int x t j u _ _ _ _ h
   ·rw [qmM] at h; exact wpAny_eqBool_str h
 «strs»:=fun k x t v h=>by
  rcases qaC h with ⟨i,u,rfl,e⟩ | ⟨y,u,rfl,e⟩
  ·exact nomatch e
  ·injection e with e1 _
   subst e1
   cases v <;> rfl
theorem qfH (prog:Program)(w:World)(i:Int)(t:Tok):(qap prog w).is (.inl i) (.int i t)=true:=qiB i t
theorem qfG (prog:Program)(w:World)(x:Str)(t:Tok):(qap prog w).is (.inr x) (.str x t)=true:=qiA x t
inductive V where
 | non | bl (b:Bool) | int (i:Int) | str (x:Str) | byt (b:Array UInt8) | flt (b:UInt64) | ref (a:Addr) | ty (n:String)
 deriving DecidableEq
def RelV:V->Value->Prop
 | .non,u=>u=Value.none
 | .bl b,u=>u=Value.bool b
 | .int i,u=>∃ t,u=Value.int i t
 | .str x,u=>∃ t,u=Value.str x t
 | .byt b,u=>∃ t,u=Value.bytes b t
 | .flt b,u=>∃ t,u=Value.float b t
 | .ref a,u=>u=Value.ref a
 | .ty n,u=>u=Value.type n
abbrev Vals:List V->List Value->Prop:=Paired RelV
theorem Vals.length {xs:List V}{us:List Value}(r:Vals xs us):xs.length=us.length:=Paired.length r
theorem Vals.get:∀ {xs:List V} {us:List Value} {i:Nat} {x:V},Vals xs us->xs[i]?=some x->∃ u,us[i]?=some u/\RelV x u
 | _,_,_,_,.nil,e=>by simp at e
 | _,_,0,_,.cons r _,e=>by simp at e; subst e; exact ⟨_,rfl,r⟩
 | _,_,i + 1,x,.cons _ t,e=>by
  obtain ⟨u,h1,h2⟩:=Vals.get (i:=i) (x:=x) t (by simpa using e)
  exact ⟨u,by simpa using h1,h2⟩
theorem Vals.set {x:V}{u:Value}(r:RelV x u):∀ {xs:List V} {us:List Value} (i:Nat),Vals xs us->Vals (xs.set i x) (us.set i u)
 | _,_,_,.nil => .nil
 | _,_,0,.cons _ t => .cons r t
 | _,_,i + 1,.cons q t => .cons q (Vals.set r i t)
theorem Vals.append:∀ {xs ys:List V} {us ws:List Value},Vals xs us->Vals ys ws->Vals (xs ++ ys) (us ++ ws)
 | _,_,_,_,.nil,s=>s
 | _,_,_,_,.cons r t,s => .cons r (Vals.append t s)
theorem Vals.take:∀ {xs:List V} {us:List Value} (n:Nat),Vals xs us->Vals (xs.take n) (us.take n)
 | _,_,0,_ => .nil
 | _,_,_ + 1,.nil => .nil
 | _,_,n + 1,.cons r t => .cons r (Vals.take n t)
theorem Vals.drop:∀ {xs:List V} {us:List Value} (n:Nat),Vals xs us->Vals (xs.drop n) (us.drop n)
 | _,_,0,r=>r
 | _,_,_ + 1,.nil => .nil
 | _,_,n + 1,.cons _ t=>Vals.drop n t
def RelO:Option V->Option Value->Prop
 | some v,some u=>RelV v u
 | none,none=>True
 | _,_=>False
def KV {κ:Type}:List (κ × V)->List (κ × Value)->Prop:=Paired fun (p:κ × V) (q:κ × Value)=>p.1=q.1/\RelV p.2 q.2
def kV:Key->V
 | .inl i => .int i
 | .inr x => .str x
inductive HO where
 | lst (xs:List V)
 | tup (xs:List V)
 | dK (kvs:List (Key × V)) | dT (kvs:List (List Key × V))
 | set (S:Int->Bool) (n:Nat)
 | ins (C dx:Addr) (fs:List (Str × V))
 | own (x:Addr)
 | xd (fs:List (Str × V))
 | met (f x:Addr)
 | rng (lo hi:Int)
 | frz (o:Obj) (u:HO)
 | tbl (ps:Array Value)
 | tab (q:Str)
 | ext (φ:Heap->Prop)
abbrev Hp:=Addr->Option HO
def upd (H:Hp)(a:Addr)(o:HO):Hp:=fun b=>if b=a then some o else H b
theorem uS {H:Hp}{a:Addr}{o:HO}:upd H a o a=some o:=by unfold upd; rw [if_pos rfl]
theorem uE {H:Hp}{a b:Addr}{o:HO}(h:b≠a):upd H a o b=H b:=by unfold upd; rw [if_neg h]
theorem qfj {H:Hp}{a:Addr}{o u:HO}:upd (upd H a o) a u=upd H a u:=by
 funext b; unfold upd; split <;> rfl
theorem qdt {H:Hp}{a b:Addr}{o u:HO}(h:H a=some o)(h':H b=some u)(d:o≠u):a≠b:=by
 intro e; subst e; rw [h] at h'; exact d (Option.some.inj h')
theorem qae {H:Hp}{a b:Addr}{o:HO}(h:H a=some o)(h':H b=none):a≠b:=by
 intro e; subst e; rw [h] at h'; cases h'
def qbR (h:Heap)(a:Addr)(items:Array Value):Prop:=∃ o,h.get? a=some o/\o.cls = .type "tuple" /\ ∃ n,o.data = .seq items n/\o.dict=none
theorem qbR.tup {h:Heap}{a:Addr}{items:Array Value}(x:qbR h a items):PyProof.Rows.IsTup h a items:=let ⟨o,e,c,n,d,_⟩:=x; ⟨o,e,c,n,d⟩
theorem qbR.new (h:Heap)(items:Array Value):qbR (h.push { cls := .type "tuple",data := .seq items }) h.objs.size items:=⟨_,Heap.get?_push_size _ rfl,rfl,_,rfl,rfl⟩
theorem qbR.lt {h:Heap}{a:Addr}{items:Array Value}(x:qbR h a items):a < h.objs.size:=let ⟨_,e,_⟩:=x; Heap.lt_size e
section
variable (P:Program)(w:World)
def qaW (H:Hp)(h:Heap)(a:Addr):HO->Prop
 | .lst xs=>xs.length≤sizeLine/\∃ (its:List Value) (n:Nat),Vals xs its/\h.get? a=some { cls := .type "list",data := .seq its.toArray n }
 | .tup xs=>xs.length≤sizeLine/\∃ its:List Value,Vals xs its/\qbR h a its.toArray
 | .dK kvs=>kvs.length≤sizeLine/\(a == sysModules)=false/\∃ vs,KV kvs vs/\h.DictOf (qap P w) a vs
 | .dT kvs=>kvs.length≤sizeLine/\(a == sysModules)=false/\∃ xs:List (List Key × Addr × Value),
   Paired (fun (p:List Key × V) (q:List Key × Addr × Value)=>p.1=q.1/\H q.2.1=some (.tup (p.1.map kV))/\RelV p.2 q.2.2) kvs xs /\
   ∃ o es ep,h.get? a=some o/\o.ExactDict/\o.data = .dict es ep/\es.toList=xs.map (entryOfKey (tupleKind (qap P w)))/\(xs.map (·.1)).Nodup
 | .set S n=>h.SetOf (intKind P w) a S n
 | .ins C dx fs=>H dx=some (.own a)/\fs.length≤1000/\dx≠a/\h.get? a=some (PySem.W.instObj C dx) /\
   ∃ mA,h.Ns1 dx mA/\(∀ f,RelO (fs.lookup f) (mA f))/\PySem.Within mA (fs.map (·.1))
 | .own _=>∃ o,h.get? a=some o
 | .xd fs=>∃ mA,h.Ns1 a mA/\∀ f,RelO (fs.lookup f) (mA f)
 | .rng lo hi=>∃ t u v,h.get? a=some { cls := .type "range",data := .fields #[.int lo t,.int hi u,.int 1 v] }
 | .frz o u=>h.get? a=some o/\qaW H h a u
 | .tbl ps=>h.get? a=some { cls := .none,data := .fields ps }
 | .tab q=>∃ ps:Array Value,h.get? a=some { cls := .none,data := .fields ps }/\TriplesOk ps.toList/\∀ pos cv,codeAmong pos ps.toList=some cv ->
   ∃ c oc vs t,cv = .ref c/\H c=some (.frz oc (.own 0))/\oc.data = .fields vs/\vs[1]?=some (.str q t)
 | .met f x=>h.get? a=some (PySem.W.methodObj (.ref f) (.ref x))
 | .ext φ=>φ h/\(∃ o,h.get? a=some o)/\∀ h1 h2:Heap,φ h1->(∀ o,h1.get? a=some o->h2.get? a=some o)->φ h2
def HOk (H:Hp)(h:Heap):Prop:=∀ a o,H a=some o->qaW P w H h a o
end
section
variable {P:Program}{w:World}{H H':Hp}{h h':Heap}{a:Addr}{o:HO}
theorem qaW.lt (x:qaW P w H h a o):a < h.objs.size:=by
 cases o with
 | lst xs=>obtain ⟨_,_,_,_,e⟩:=x; exact Heap.lt_size e
 | tup xs=>obtain ⟨_,_,_,p⟩:=x; exact p.lt
 | dK kvs=>obtain ⟨_,_,_,_,o,_,_,e,_⟩:=x; exact Heap.lt_size e
 | dT kvs=>obtain ⟨_,_,_,_,o,_,_,e,_⟩:=x; exact Heap.lt_size e
 | set S n=>obtain ⟨o,_,_,_,e,_⟩:=x; exact Heap.lt_size e
 | ins C dx fs=>obtain ⟨_,_,_,e,_⟩:=x; exact Heap.lt_size e
 | own y=>obtain ⟨_,e⟩:=x; exact Heap.lt_size e
 | xd fs=>obtain ⟨_,⟨_,_,_,e,_⟩,_⟩:=x; exact Heap.lt_size e
 | rng lo hi=>obtain ⟨_,_,_,e⟩:=x; exact Heap.lt_size e
 | frz ob u=>obtain ⟨e,_⟩:=x; exact Heap.lt_size e
 | tbl ps=>exact Heap.lt_size (show h.get? a=some _ from x)
 | tab q=>obtain ⟨_,e,_⟩:=x; exact Heap.lt_size e
 | met f y=>exact Heap.lt_size (show h.get? a=some _ from x)
 | ext φ=>obtain ⟨_,⟨_,e⟩,_⟩:=x; exact Heap.lt_size e
theorem Paired.mapP {α β:Type}{F G:α->β->Prop}:∀ {l₁:List α} {l₂:List β},Paired F l₁ l₂->(∀ a b,F a b->G a b)->Paired G l₁ l₂
 | _,_,.nil,_ => .nil
 | _,_,.cons r t,f => .cons (f _ _ r) (Paired.mapP t f)
theorem qaW.stay (x:qaW P w H h a o)(k:∀ b u,(b=a\/H b=some (.own a))->h.get? b=some u->h'.get? b=some u)
  (ho:∀ b,H b=some (.own a)->H' b=some (.own a)) (ht:∀ b xs,H b=some (.tup xs)->H' b=some (.tup xs)) (hz:∀ b ob,H b=some (.frz ob (.own 0))->H' b=some (.frz ob (.own 0)):=by exact fun _ _ q=>q):qaW P w H' h' a o:=by
 induction o with
 | lst xs=>obtain ⟨z,its,n,r,e⟩:=x; exact ⟨z,its,n,r,k _ _ (.inl rfl) e⟩
 | tup xs=>obtain ⟨z,its,r,ob,e,c⟩:=x; exact ⟨z,its,r,ob,k _ _ (.inl rfl) e,c⟩
 | dK kvs=>obtain ⟨z,y,vs,r,ob,es,ep,e,c⟩:=x; exact ⟨z,y,vs,r,ob,es,ep,k _ _ (.inl rfl) e,c⟩
 | dT kvs =>
  obtain ⟨z,y,xs,r,ob,es,ep,e,c⟩:=x
  exact ⟨z,y,xs,Paired.mapP r fun p q z=>⟨z.1,ht _ _ z.2.1,z.2.2⟩,ob,es,ep,k _ _ (.inl rfl) e,c⟩
 | set S n=>obtain ⟨ob,es,ep,t,e,c⟩:=x; exact ⟨ob,es,ep,t,k _ _ (.inl rfl) e,c⟩
 | ins C dx fs =>
  obtain ⟨d,z,ne,e,mA,⟨od,es,ep,e2,c⟩,r⟩:=x
  exact ⟨ho _ d,z,ne,k _ _ (.inl rfl) e,mA,⟨od,es,ep,k _ _ (.inr d) e2,c⟩,r⟩
 | own y=>obtain ⟨ob,e⟩:=x; exact ⟨ob,k _ _ (.inl rfl) e⟩
 | xd fs=>obtain ⟨mA,⟨od,es,ep,e,c⟩,r⟩:=x; exact ⟨mA,⟨od,es,ep,k _ _ (.inl rfl) e,c⟩,r⟩
 | rng lo hi=>obtain ⟨t,u,v,e⟩:=x; exact ⟨t,u,v,k _ _ (.inl rfl) e⟩
 | frz ob u ih=>obtain ⟨e,q⟩:=x; exact ⟨k _ _ (.inl rfl) e,ih q⟩
 | tab q =>
  obtain ⟨ps,e,tr,cs⟩:=x
  refine ⟨ps,k a _ (.inl rfl) e,tr,fun pos cv hc=>?_⟩
  obtain ⟨c,oc,vs,t,h1,h2,h3⟩:=cs pos cv hc
  exact ⟨c,oc,vs,t,h1,hz c oc h2,h3⟩
 | tbl ps =>
  have e:h.get? a=some { cls := .none,data := .fields ps }:=x
  show h'.get? a=some { cls := .none,data := .fields ps }
  exact k a _ (.inl rfl) e
 | met f y =>
  have e:h.get? a=some (PySem.W.methodObj (.ref f) (.ref y)):=x
  show h'.get? a=some (PySem.W.methodObj (.ref f) (.ref y))
  exact k a _ (.inl rfl) e
 | ext φ=>obtain ⟨p,⟨o,e⟩,st⟩:=x; exact ⟨st _ _ p fun o q=>k _ _ (.inl rfl) q,⟨o,k _ _ (.inl rfl) e⟩,st⟩
theorem HOk.lt (x:HOk P w H h)(e:H a=some o):a < h.objs.size:=(x a o e).lt
theorem HOk.fresh (x:HOk P w H h)(e:h.objs.size≤a):H a=none:=by
 cases q:H a with
 | none=>rfl
 | some u=>exact absurd (Nat.lt_of_lt_of_le (x.lt q) e) (Nat.lt_irrefl _)
theorem HOk.kept (x:HOk P w H h)(k:∀ b u,h.get? b=some u->h'.get? b=some u):HOk P w H h':=fun a o e =>
 (x a o e).stay (fun b u _ q=>k b u q) (fun _ q=>q) fun _ _ q=>q
theorem HOk.laid (x:HOk P w H h)(k:∀ b u,h.get? b=some u->h'.get? b=some u)(hp:h.objs.size≤a)(new:qaW P w (upd H a o) h' a o):HOk P w (upd H a o) h':=fun b u e=>by
 have hn:=x.fresh hp
 by_cases hb:b=a
 ·subst hb; rw [uS] at e; cases e; exact new
 ·rw [uE hb] at e
  exact (x b u e).stay (fun c v _ q=>k c v q) (fun c q=>by rw [uE (qae q hn)]; exact q) (fun c xs q=>by rw [uE (qae q hn)]; exact q) fun c ob q=>by rw [uE (qae q hn)]; exact q
end
def Rd (H:Hp)(a:Addr)(u:HO):Prop:=H a=some u\/∃ o,H a=some (.frz o u)
theorem Rd.ok {P:Program}{w:World}{H:Hp}{h:Heap}{a:Addr}{u:HO}(r:Rd H a u)(x:HOk P w H h):qaW P w H h a u:=by
 rcases r with r | ⟨o,r⟩
 ·exact x a u r
 ·obtain ⟨_,q⟩:=x a _ r
  exact q
def Mut:Option HO->Prop
 | some (.lst _)=>True
 | some (.dK _)=>True
 | some (.dT _)=>True
 | some (.set _ _)=>True
 | some (.ins _ _ _)=>True
 | some (.ext _)=>True
 | some (.tab _)=>True
 | _=>False
section
variable {P:Program}{w:World}{H:Hp}{h h':Heap}{x e:Addr}{o':HO}
theorem HOk.write (ok:HOk P w H h)(mu:Mut (H x))(he:e=x\/H e=some (.own x))(k:∀ b u,b≠e->h.get? b=some u->h'.get? b=some u)(heo:∃ u,h'.get? e=some u)
  (new:qaW P w (upd H x o') h' x o'):HOk P w (upd H x o') h':=fun b u q=>by
 have nown:∀ c y,H c=some (.own y)->c≠x:=fun c y r z=>by subst z; rw [r] at mu; exact mu
 have ntup:∀ c xs,H c=some (.tup xs)->c≠x:=fun c xs r z=>by subst z; rw [r] at mu; exact mu
 by_cases hb:b=x
 ·subst hb; rw [uS] at q; cases q; exact new
 ·rw [uE hb] at q
  by_cases hbe:b=e
  ·have q':H b=some (.own x):=by
    rcases he with z | z
    ·exact absurd (hbe.trans z) hb
    ·rw [hbe]; exact z
   rw [q] at q'; cases q'
   obtain ⟨v,hv⟩:=heo
   exact ⟨v,by rw [hbe]; exact hv⟩
  ·refine (ok b u q).stay (fun c v hc r=>k c v ?_ r) (fun c r=>by rw [uE (nown c b r)]; exact r) (fun c xs r=>by rw [uE (ntup c xs r)]; exact r) (fun c ob r=>by rw [uE (fun z=>by subst z; rw [r] at mu; exact mu)]; exact r)
   rcases hc with rfl | hc
   ·exact hbe
   ·rintro rfl
    rcases he with z | z
    ·exact nown c b hc z
    ·rw [hc] at z; cases z; exact hb rfl
end
structure Un (fs ex:List Addr)(H H':Hp)(h h':Heap):Prop where
 keep:∀ b o,h.get? b=some o->H b=none->b ∉ fs->b ∉ ex->h'.get? b=some o
 slot:∀ b o,h.get? b=some o->H b=none->b∈fs->b ∉ ex->∃ sl,h'.get? b=some { o with slots:=sl }
 free:∀ b o,h.get? b=some o->H b=none->b ∉ ex->H' b=none
 there:∀ b o,h.get? b=some o->b ∉ ex->∃ o',h'.get? b=some o'
 tups:∀ b xs,H b=some (.tup xs)->H' b=some (.tup xs)
 frzs:∀ b o u,H b=some (.frz o u)->H' b=some (.frz o u)
 tbls:∀ b ps,H b=some (.tbl ps)->∃ more,H' b=some (.tbl (ps ++ more))
section
variable {fs fs' ex ex':List Addr}{H H1 H2:Hp}{h h1 h2 h':Heap}{a x e:Addr}{o:HO}
theorem Un.any (u:Un fs ex H H1 h h1){b:Addr}{ob:Obj}(q:h.get? b=some ob)(n:H b=none)(hx:b ∉ ex):∃ sl,h1.get? b=some { ob with slots:=sl }:=by
 by_cases hb:b∈fs
 ·exact u.slot b ob q n hb hx
 ·exact ⟨ob.slots,u.keep b ob q n hb hx⟩
theorem Un.kept (k:∀ b u,h.get? b=some u->h'.get? b=some u):Un fs ex H H h h' :=
 ⟨fun b ob q _ _ _=>k b ob q,fun b ob q _ _ _=>⟨ob.slots,k b ob q⟩,fun _ _ _ n _=>n,fun b ob q _=>⟨ob,k b ob q⟩,fun _ _ q=>q,fun _ _ _ q=>q,fun _ ps q=>⟨#[],by rw [q]; simp⟩⟩
theorem Un.refl:Un fs ex H H h h:=Un.kept fun _ _ q=>q
theorem Un.laid (k:∀ b u,h.get? b=some u->h'.get? b=some u)(hp:h.objs.size≤a)(hn:H a=none):Un fs ex H (upd H a o) h h' where
 keep:=fun b u q _ _ _=>k b u q
 slot:=fun b u q _ _ _=>⟨u.slots,k b u q⟩
 free:=fun b u q n _=>by rw [uE (Nat.ne_of_lt (Nat.lt_of_lt_of_le (Heap.lt_size q) hp))]; exact n
 there:=fun b u q _=>⟨u,k b u q⟩
 tups:=fun b xs q=>by rw [uE (qae q hn)]; exact q
 frzs:=fun b u xs q=>by rw [uE (qae q hn)]; exact q
 tbls:=fun b ps q=>⟨#[],by rw [uE (qae q hn),q]; simp⟩
theorem Un.write (mu:Mut (H x))(he:e=x\/H e=some (.own x))(k:∀ b u,b≠e->h.get? b=some u->h'.get? b=some u)(heo:∃ u,h'.get? e=some u):Un fs ex H (upd H x o) h h':=by
 have hx:∀ b,H b=none->b≠x:=fun b n z=>by subst z; rw [n] at mu; exact mu
 have hb:∀ b,H b=none->b≠e:=fun b n z=>by
  subst z
  rcases he with r | r
  ·exact hx b n r
  ·rw [n] at r; cases r
 have hm:∀ b u,H b=some u->¬ Mut (some u)->b≠x:=fun b u q nm z=>by subst z; rw [q] at mu; exact nm mu
 refine ⟨fun b u q n _ _=>k b u (hb b n) q,fun b u q n _ _=>⟨u.slots,k b u (hb b n) q⟩,fun b u q n _=>by rw [uE (hx b n)]; exact n,fun b u q _=>?_,
  fun b xs q=>by rw [uE (hm b _ q fun z=>z)]; exact q,fun b u xs q=>by rw [uE (hm b _ q fun z=>z)]; exact q,fun b ps q=>⟨#[],by rw [uE (hm b _ q fun z=>z),q]; simp⟩⟩
 by_cases hbe:b=e
 ·subst hbe; exact heo
 ·exact ⟨u,k b u hbe q⟩
end
def trk (h:Heap)(H:Hp):List Addr:=(List.range h.objs.size).filter fun a=>(H a).isSome
def hidT (h:Heap)(H:Hp):Heap:=PySem.W.hideAll h (trk h H)
theorem qiG (h:Heap)(H:Hp):(hidT h H).objs.size=h.objs.size:=PySem.W.hideAll_size _ _
theorem qki {h:Heap}{H:Hp}{b:Addr}{o:Obj}(e:h.get? b=some o)(n:H b=none):(hidT h H).get? b=some o :=
 PySem.W.hideAll_get _ e fun hm=>by
  have q:(H b).isSome=true:=(List.mem_filter.mp hm).2
  rw [n] at q; simp at q
theorem qlN {h:Heap}{H:Hp}{b:Addr}{o:Obj}(e:(hidT h H).get? b=some o):h.get? b=some o/\H b=none:=by
 have e':h.get? b=some o:=PySem.W.of_hideAll (trk h H) e
 refine ⟨e',?_⟩
 cases q:H b with
 | none=>rfl
 | some x =>
  have hm:b∈trk h H:=List.mem_filter.mpr ⟨List.mem_range.mpr (Heap.lt_size e'),by simp [q]⟩
  have z:(hidT h H).get? b=none:=PySem.W.hideAll_none (trk h H) hm
  rw [z] at e; cases e
structure Mod (K:PySem.W.Frag)(mg:Str->Option Value)(base:Heap):Prop where
 kin:K.In base
 glob:base.Ns mainGlobals mg
 blt:∃ mb,base.Ns builtinsNs mb/\∀ x:Str,x ≠ "__name__" -> mb x=bootBuiltins x
 nolimit:base.NoLimit
structure Cx where
 prog:Program
 w:World
 K:PySem.W.Frag
 mg:Str->Option Value
 base:Heap
 A:Around
 N:List Str
 s₀:Shared
 H₀:Hp
 env:Env
 outer:List Env
 stack:List Env
 ex:List Addr
 fn:Str->Bool
 calm:Bool
 pn:List (Addr × Obj)
 xe:Value->Shared->Prop
def frs (l:List Env):List Addr:=l.filterMap (·.frame)
abbrev Cx.fs (X:Cx):List Addr:=frs X.outer
def Vis (sc:Scope)(x:Str):Prop:=sc.names.lookup x=some .local\/sc.names.lookup x=some .cell\/sc.names.lookup x=some .free
def Loc (sc:Scope)(x:Str):Prop:=sc.names.lookup x=some .local\/sc.names.lookup x=some .cell
def Look (env:Env)(h:Heap)(m:Str->Option Value)(x:Str)(u:Value):Prop :=
 (env.kindOf x=some .local/\m x=some u)\/((env.kindOf x=some .cell\/env.kindOf x=some .free)/\∃ c,env.cells.lookup x=some c/\h.IsCell c (some u))
structure Cx.Ok (X:Cx):Prop where
 mod:Mod X.K X.mg X.base
 kind:X.env.scope.kind = .function
 glob:X.env.globals=mainGlobals
 blt:X.env.builtins=builtinsNs
 above:X.s₀.heap.objs.size≤X.env.locals
 inj:∀ x y c,X.env.cells.lookup x=some c->X.env.cells.lookup y=some c->x=y
 has:∀ x,(X.env.kindOf x=some .cell\/X.env.kindOf x=some .free)->∃ c,X.env.cells.lookup x=some c
 cab:∀ x c,X.fn x=true->X.env.cells.lookup x=some c->X.s₀.heap.objs.size≤c
 hd:X.calm=true->X.A.handled=none
 frames:X.A.frames=some X.stack
 stk:X.stack=X.outer\/(X.stack=X.env :: X.outer/\X.env.frame=some X.env.locals)
 exf:∀ b∈X.ex,b≠X.env.locals/\∀ x c,X.env.cells.lookup x=some c->c≠b
 bs:∀ b o,X.base.get? b=some o->X.s₀.heap.get? b=some o/\X.H₀ b=none
 bsz:X.base.objs.size≤X.s₀.heap.objs.size
 noex:∀ b o,X.base.get? b=some o->b ∉ X.ex
 exfs:∀ b∈X.ex,b ∉ X.fs
 funs:X.s₀.heap.FunFrames X.base X.outer
 frf:∀ b∈X.fs,X.H₀ b=none
structure Inv (X:Cx)(pins:List (Addr × Obj))(σ:List (Option V))(H:Hp)(s:Shared):Prop where
 ok:X.Ok
 os:s.os=X.s₀.os
 bare:AllBare s.gens
 base:Un X.fs X.ex X.H₀ H X.s₀.heap s.heap
 loc:∃ m,s.heap.Ns X.env.locals m/\∀ (i:Nat) (x:Str) (v:V),X.N[i]?=some x->σ[i]?=some (some v)->Vis X.env.scope x->∃ u,RelV v u/\Look X.env s.heap m x u
 cell:∀ x c,X.env.cells.lookup x=some c->∃ v,s.heap.IsCell c v
 free:H X.env.locals=none
 freeC:∀ x c,X.env.cells.lookup x=some c->H c=none
 pin:∀ p∈X.pn ++ pins,s.heap.get? p.1=some p.2/\H p.1=none/\p.1≠X.env.locals/\p.1 ∉ X.fs/\∀ v,p.2.data ≠ .cell v
 hok:HOk X.prog X.w H s.heap
 len:σ.length=X.N.length
section
variable {X:Cx}{pins:List (Addr × Obj)}{σ:List (Option V)}{H H':Hp}{s:Shared}{h':Heap}
theorem Cx.Ok.nofr (ok:X.Ok){b:Addr}{o:Obj}(e:X.base.get? b=some o):b ∉ X.fs:=fun hb=>by
 have:=(ok.funs.mem hb).1
 rw [e] at this; cases this
theorem Inv.bs (I:Inv X pins σ H s):∀ b o,X.base.get? b=some o->s.heap.get? b=some o/\H b=none:=fun b o e =>
 ⟨I.base.keep b o (I.ok.bs b o e).1 (I.ok.bs b o e).2 (I.ok.nofr e) (I.ok.noex b o e),I.base.free b o (I.ok.bs b o e).1 (I.ok.bs b o e).2 (I.ok.noex b o e)⟩
theorem Inv.bk (I:Inv X pins σ H s):∀ b o,X.base.get? b=some o->s.heap.get? b=some o:=fun b o e=>(I.bs b o e).1
theorem Inv.mod (I:Inv X pins σ H s):Mod X.K X.mg X.base:=I.ok.mod
theorem Inv.kIn (I:Inv X pins σ H s):X.K.In s.heap:=I.ok.mod.kin.keeps I.bk
theorem Inv.lt (I:Inv X pins σ H s):X.env.locals < s.heap.objs.size:=let ⟨_,hn,_⟩:=I.loc; hn.lt
theorem Inv.sz (I:Inv X pins σ H s):X.s₀.heap.objs.size≤s.heap.objs.size:=Nat.le_trans I.ok.above (Nat.le_of_lt I.lt)
theorem Inv.nofs (I:Inv X pins σ H s){a:Addr}(h:s.heap.objs.size≤a):a ∉ X.fs:=fun hb=>by
 obtain ⟨_,o,ho,_⟩:=I.ok.funs.mem hb
 exact absurd (Nat.lt_of_lt_of_le (Heap.lt_size ho) (Nat.le_trans I.sz h)) (Nat.lt_irrefl _)
theorem Inv.cne (I:Inv X pins σ H s):∀ x c,X.env.cells.lookup x=some c->c≠X.env.locals:=fun x c e z=>by
 obtain ⟨v,o,ho,hd⟩:=I.cell x c e
 obtain ⟨m,⟨o',es,ep,ho',hd',_⟩,_⟩:=I.loc
 rw [z,ho'] at ho; cases ho; rw [hd'] at hd; cases hd
theorem Inv.funs (I:Inv X pins σ H s):s.heap.FunFrames X.base X.outer:=by
 have all:∀ (l:List Env),(∀ b∈frs l,b∈X.fs)->X.s₀.heap.FunFrames X.base l->s.heap.FunFrames X.base l:=by
  intro l
  induction l with
  | nil=>intro _ _; trivial
  | cons env r ih =>
   intro hs hl
   obtain ⟨hk,⟨L,o,hf,hn,ho,hd⟩,hr⟩:=hl
   have hL:L∈X.fs:=hs L (by unfold frs; rw [List.filterMap_cons,hf]; exact List.mem_cons_self)
   obtain ⟨sl,e⟩:=I.base.slot L o ho (I.ok.frf L hL) hL fun z=>I.ok.exfs L z hL
   exact ⟨hk,⟨L,_,hf,hn,e,hd⟩,ih (fun b hb=>hs b (by unfold frs; rw [List.filterMap_cons,hf]; exact List.mem_cons_of_mem _ hb)) hr⟩
 exact all X.outer (fun _ hb=>hb) I.ok.funs
theorem Inv.stack (I:Inv X pins σ H s):s.heap.FunFrames X.base X.stack:=by
 rcases I.ok.stk with e | ⟨e,hf⟩
 ·rw [e]; exact I.funs
 ·rw [e]
  obtain ⟨m,hn,_⟩:=I.loc
  refine .cons (by rw [I.ok.kind]; decide) hf hn ?_ I.funs
  exact Heap.get?_none_of_le (Nat.le_trans I.ok.bsz I.ok.above)
theorem Inv.stkSub (I:Inv X pins σ H s):∀ b∈frs X.stack,b∈X.env.locals :: X.fs:=fun b hb=>by
 rcases I.ok.stk with e | ⟨e,hf⟩
 ·rw [e] at hb; exact List.mem_cons_of_mem _ hb
 ·rw [e] at hb
  unfold frs at hb
  rw [List.filterMap_cons,hf] at hb
  exact hb
theorem Inv.stkFree (I:Inv X pins σ H s):∀ b∈frs X.stack,H b=none:=fun b hb=>by
 rcases List.mem_cons.mp (I.stkSub b hb) with e | hb
 ·rw [e]; exact I.free
 ·obtain ⟨_,o,ho,_⟩:=I.ok.funs.mem hb
  exact I.base.free b o ho (I.ok.frf b hb) fun z=>I.ok.exfs b z hb
theorem Inv.step {g':Array GenState}{t':Nat}{d':Drawn}{ch:List Addr}(I:Inv X pins σ H s)
  (hch:∀ b∈ch,(b∈X.ex\/X.s₀.heap.objs.size≤b)/\b≠X.env.locals/\(∀ x c,X.env.cells.lookup x=some c->c≠b)/\∀ p∈X.pn ++ pins,p.1≠b)
  (keep:∀ b o,b≠X.env.locals->b ∉ X.fs->b ∉ ch->s.heap.get? b=some o->H b=none->h'.get? b=some o)
  (slot:∀ b o,b≠X.env.locals->b∈X.fs->b ∉ ch->s.heap.get? b=some o->H b=none->∃ sl,h'.get? b=some { o with slots:=sl }) (free:∀ b o,b ∉ ch->s.heap.get? b=some o->H b=none->H' b=none)
  (there:∀ b o,b ∉ ch->s.heap.get? b=some o->∃ o',h'.get? b=some o')
  (tups:∀ b xs,H b=some (.tup xs)->H' b=some (.tup xs)) (frzs:∀ b o u,H b=some (.frz o u)->H' b=some (.frz o u)) (tbls:∀ b ps,H b=some (.tbl ps)->∃ more,H' b=some (.tbl (ps ++ more)))
  (ns:∀ m,s.heap.Ns X.env.locals m->h'.Ns X.env.locals m) (hok:HOk X.prog X.w H' h') (hg:AllBare g') :
  Inv X pins σ H' { s with heap:=h',gens:=g',drawn:=d',toks:=t' }:=by
 have neL:∀ b o,X.s₀.heap.get? b=some o->b≠X.env.locals:=fun b o e=>Nat.ne_of_lt (Nat.lt_of_lt_of_le (Heap.lt_size e) I.ok.above)
 have neC:∀ b o,X.s₀.heap.get? b=some o->b ∉ X.ex->b ∉ ch:=fun b o e hx hb=>by
  rcases (hch b hb).1 with z | z
  ·exact hx z
  ·exact absurd (Nat.lt_of_lt_of_le (Heap.lt_size e) z) (Nat.lt_irrefl _)
 have cellK:∀ x c,X.env.cells.lookup x=some c->∀ v,s.heap.IsCell c v->h'.IsCell c v:=fun x c e v ⟨o,ho,hd⟩=>by
  have nch:c ∉ ch:=fun z=>(hch c z).2.2.1 x c e rfl
  by_cases hc:c∈X.fs
  ·obtain ⟨sl,q⟩:=slot c o (I.cne x c e) hc nch ho (I.freeC x c e)
   exact ⟨_,q,hd⟩
  ·exact ⟨o,keep c o (I.cne x c e) hc nch ho (I.freeC x c e),hd⟩
 refine ⟨I.ok,I.os,hg,⟨fun b o e n hb hx=>?_,fun b o e n hb hx=>?_,fun b o e n hx=>?_,fun b o e hx=>?_,fun b xs e=>tups b xs (I.base.tups b xs e),fun b o xs e=>frzs b o xs (I.base.frzs b o xs e),fun b ps e=>?_⟩,?_,fun x c e=>?_,?_,fun x c e=>?_,fun p hp=>?_,hok,I.len⟩
 ·exact keep b o (neL b o e) hb (neC b o e hx) (I.base.keep b o e n hb hx) (I.base.free b o e n hx)
 ·obtain ⟨sl,e1⟩:=I.base.slot b o e n hb hx
  obtain ⟨sl',e2⟩:=slot b _ (neL b o e) hb (neC b o e hx) e1 (I.base.free b o e n hx)
  exact ⟨sl',e2⟩
 ·obtain ⟨o',e1⟩:=I.base.there b o e hx
  exact free b o' (neC b o e hx) e1 (I.base.free b o e n hx)
 ·obtain ⟨o',e1⟩:=I.base.there b o e hx
  exact there b o' (neC b o e hx) e1
 ·obtain ⟨m1,e1⟩:=I.base.tbls b ps e
  obtain ⟨m2,e2⟩:=tbls b _ e1
  exact ⟨m1 ++ m2,by rw [e2,Array.append_assoc]⟩
 ·obtain ⟨m,hn,hl⟩:=I.loc
  refine ⟨m,ns m hn,fun i x v e1 e2 e3=>?_⟩
  obtain ⟨u,r,l⟩:=hl i x v e1 e2 e3
  refine ⟨u,r,?_⟩
  rcases l with l | ⟨k,c,e,z⟩
  ·exact .inl l
  ·exact .inr ⟨k,c,e,cellK x c e _ z⟩
 ·obtain ⟨v,z⟩:=I.cell x c e
  exact ⟨v,cellK x c e v z⟩
 ·obtain ⟨m,⟨o,_,_,ho,_⟩,_⟩:=I.loc
  exact free _ o (fun z=>(hch _ z).2.1 rfl) ho I.free
 ·obtain ⟨v,o,ho,hd⟩:=I.cell x c e
  exact free c o (fun z=>(hch c z).2.2.1 x c e rfl) ho (I.freeC x c e)
 ·obtain ⟨e,n,ne,nf,d⟩:=I.pin p hp
  have nch:p.1 ∉ ch:=fun z=>(hch p.1 z).2.2.2 p hp rfl
  exact ⟨keep p.1 p.2 ne nf nch e n,free p.1 p.2 nch e n,ne,nf,d⟩
theorem Inv.un {t':Nat}(I:Inv X pins σ H s)(u:Un X.fs [] H H' s.heap h')(hok:HOk X.prog X.w H' h'):Inv X pins σ H' { s with heap:=h',toks:=t' }:=by
 obtain ⟨m,⟨o,es,ep,ho,r⟩,_⟩:=id I.loc
 obtain ⟨sl,hL⟩:=u.any ho I.free (by simp)
 exact I.step (g':=s.gens) (d':=s.drawn) (ch:=[]) (fun _ z=>nomatch z) (fun b o _ hb _ e n=>u.keep b o e n hb (by simp)) (fun b o _ hb _ e n=>u.slot b o e n hb (by simp)) (fun b o _ e n=>u.free b o e n (by simp)) (fun b o _ e=>u.there b o e (by simp)) u.tups u.frzs u.tbls (fun m' hm=>by
  obtain ⟨o',es',ep',ho',r'⟩:=hm
  rw [ho] at ho'; cases ho'
  exact ⟨_,es',ep',hL,r'⟩) hok I.bare
theorem Inv.call {g':Array GenState}{t':Nat}{d':Drawn}{ch:List Addr}(I:Inv X pins σ H s)(u:Un (frs X.stack) ch H H' s.heap h')(hok:HOk X.prog X.w H' h')(hg:AllBare g')
  (hch:∀ b∈ch,(b∈X.ex\/X.s₀.heap.objs.size≤b)/\b≠X.env.locals/\(∀ x c,X.env.cells.lookup x=some c->c≠b)/\∀ p∈X.pn ++ pins,p.1≠b) :
  Inv X pins σ H' { s with heap:=h',gens:=g',drawn:=d',toks:=t' }:=by
 obtain ⟨m,⟨o,es,ep,ho,r⟩,_⟩:=id I.loc
 obtain ⟨sl,hL⟩:=u.any ho I.free fun z=>(hch _ z).2.1 rfl
 exact I.step (ch:=ch) hch (fun b o hL hb hc e n=>u.keep b o e n (fun z=>(List.mem_cons.mp (I.stkSub b z)).elim hL hb) hc) (fun b o _ _ hc e n=>u.any e n hc) (fun b o hc e n=>u.free b o e n hc) (fun b o hc e=>u.there b o e hc) u.tups u.frzs u.tbls (fun m' hm=>by
  obtain ⟨o',es',ep',ho',r'⟩:=hm
  rw [ho] at ho'; cases ho'
  exact ⟨_,es',ep',hL,r'⟩) hok hg
theorem Inv.turned {t':Nat}{it:Addr}(I:Inv X pins σ H s)(k:∀ b o,b≠it->s.heap.get? b=some o->h'.get? b=some o)(hn:H it=none)(hL:it≠X.env.locals)
  (h1:it∈X.ex\/X.s₀.heap.objs.size≤it) (h2:∀ x c,X.env.cells.lookup x=some c->c≠it) (h3:∀ p∈X.pn ++ pins,p.1≠it):Inv X pins σ H { s with heap:=h',toks:=t' }:=by
 have nit:∀ b u,H b=some u->b≠it:=fun b u e z=>by rw [z,hn] at e; cases e
 refine I.step (g':=s.gens) (d':=s.drawn) (ch:=[it]) (fun b hb=>?_) (fun b o _ _ hc e _=>k b o (fun z=>hc (by simp [z])) e) (fun b o _ _ hc e _=>⟨o.slots,k b o (fun z=>hc (by simp [z])) e⟩) (fun _ _ _ _ n=>n)
  (fun b o hc e=>⟨o,k b o (fun z=>hc (by simp [z])) e⟩) (fun _ _ e=>e) (fun _ _ _ e=>e) (fun b ps e=>⟨#[],by rw [e]; simp⟩) (fun m hm=>?_) (fun b u e=>?_) I.bare
 ·have e:b=it:=by simpa using hb
  subst e
  exact ⟨h1,hL,h2,h3⟩
 ·obtain ⟨o,es,ep,ho,r⟩:=hm
  exact ⟨o,es,ep,k _ o (Ne.symm hL) ho,r⟩
 ·refine (I.hok b u e).stay (fun c v hc q=>k c v ?_ q) (fun _ q=>q) fun _ _ q=>q
  rcases hc with z | z
  ·rw [z]; exact nit b u e
  ·exact nit c _ z
theorem Inv.tok (I:Inv X pins σ H s)(t:Nat):Inv X pins σ H { s with toks:=t }:=I.un (h':=s.heap) (t':=t) Un.refl I.hok
theorem Inv.kept {t':Nat}(I:Inv X pins σ H s)(k:∀ b u,s.heap.get? b=some u->h'.get? b=some u):Inv X pins σ H { s with heap:=h',toks:=t' }:=I.un (Un.kept k) (I.hok.kept k)
theorem Inv.laid {a:Addr}{o:HO}{t':Nat}(I:Inv X pins σ H s)(k:∀ b u,s.heap.get? b=some u->h'.get? b=some u)(hp:s.heap.objs.size≤a)(new:qaW X.prog X.w (upd H a o) h' a o) :
  Inv X pins σ (upd H a o) { s with heap:=h',toks:=t' }:=I.un (Un.laid k hp (I.hok.fresh hp)) (I.hok.laid k hp new)
theorem Inv.write {x e:Addr}{o:HO}{t':Nat}(I:Inv X pins σ H s)(mu:Mut (H x))(he:e=x\/H e=some (.own x))(k:∀ b u,b≠e->s.heap.get? b=some u->h'.get? b=some u)(heo:∃ u,h'.get? e=some u)
  (new:qaW X.prog X.w (upd H x o) h' x o):Inv X pins σ (upd H x o) { s with heap:=h',toks:=t' }:=I.un (Un.write mu he k heo) (I.hok.write mu he k heo new)
theorem Inv.pins_of {pins':List (Addr × Obj)}(I:Inv X pins σ H s)(h:∀ p∈pins',s.heap.get? p.1=some p.2/\H p.1=none/\p.1≠X.env.locals/\p.1 ∉ X.fs/\∀ v,p.2.data ≠ .cell v):Inv X pins' σ H s :=
 ⟨I.ok,I.os,I.bare,I.base,I.loc,I.cell,I.free,I.freeC,fun p hp=>(List.mem_append.mp hp).elim (fun z=>I.pin p (List.mem_append_left _ z)) (h p),I.hok,I.len⟩
theorem qgp {N:List Str}(hN:N.Nodup){i j:Nat}{x:Str}(a:N[i]?=some x)(b:N[j]?=some x):i=j:=by
 obtain ⟨h1,e1⟩:=List.getElem?_eq_some_iff.mp a
 obtain ⟨h2,e2⟩:=List.getElem?_eq_some_iff.mp b
 exact (List.getElem_inj hN).mp (e1.trans e2.symm)
theorem qhI {M:Model}{A:Around}{E:Value->Shared->Prop}{i:Nat}{x:Str}{v:V}{u:Value}{Q:Unit->Shared->Prop}(I:Inv X pins σ H s)(hN:X.N.Nodup)(hi:X.N[i]?=some x)(hx:Loc X.env.scope x)(r:RelV v u)
  (h:∀ s',Inv X pins (σ.set i (some v)) H s'->(∃ a,Heap.SameBut a s.heap s'.heap/\(a=X.env.locals\/X.env.cells.lookup x=some a))->Q () s') (hf:X.fn x=true\/X.env.scope.names.lookup x=some .local:=by first | exact .inl rfl | exact .inr rfl | assumption):wpAny M A (storeName X.env x u) Q E s:=by
 obtain ⟨m,hn,hl⟩:=id I.loc
 have hcls:(X.env.scope.kind == .class || (X.env.scope.kind == .module && X.env.locals != X.env.globals))=false:=by rw [I.ok.kind]; rfl
 have hiσ:i < σ.length:=by rw [I.len]; exact (List.getElem?_eq_some_iff.mp hi).1
 have cne:=I.cne
 have tracked:∀ {a:Addr} {h':Heap},(∃ o,s.heap.get? a=some o/\H a=none)->Heap.SameBut a s.heap h'->HOk X.prog X.w H h':=fun {a h'} ha hs b ob e=>by
  obtain ⟨_,_,hfree⟩:=ha
  refine (I.hok b ob e).stay (fun c w' hc q=>(hs.2 c ?_).trans q) (fun _ q=>q) fun _ _ q=>q
  rintro rfl
  rcases hc with rfl | hc
  ·rw [hfree] at e; cases e
  ·rw [hfree] at hc; cases hc
 rcases hx with hk | hk
 ·refine wpAny_storeName_local hk hn (fun h' hn' hs=>?_) hcls
  obtain ⟨oL,_,_,hoL,_⟩:=id hn
  refine h _ ⟨I.ok,I.os,I.bare,⟨fun b o e n hb hx=>?_,fun b o e n hb hx=>?_,I.base.free,fun b o e hx=>?_,I.base.tups,I.base.frzs,I.base.tbls⟩,⟨_,hn',fun j y v' e1 e2 e3=>?_⟩,fun y c e=>?_,I.free,I.freeC,fun p hp=>?_,tracked ⟨oL,hoL,I.free⟩ hs,by simpa using I.len⟩ ⟨_,hs,.inl rfl⟩
  ·exact (hs.2 b (Nat.ne_of_lt (Nat.lt_of_lt_of_le (Heap.lt_size e) I.ok.above))).trans (I.base.keep b o e n hb hx)
  ·obtain ⟨sl,e1⟩:=I.base.slot b o e n hb hx
   exact ⟨sl,(hs.2 b (Nat.ne_of_lt (Nat.lt_of_lt_of_le (Heap.lt_size e) I.ok.above))).trans e1⟩
  ·obtain ⟨o',e1⟩:=I.base.there b o e hx
   exact ⟨o',(hs.2 b (Nat.ne_of_lt (Nat.lt_of_lt_of_le (Heap.lt_size e) I.ok.above))).trans e1⟩
  ·by_cases hj:j=i
   ·subst hj
    rw [hi] at e1; cases e1
    rw [List.getElem?_set_self hiσ] at e2
    cases e2
    exact ⟨u,r,.inl ⟨hk,by simp⟩⟩
   ·rw [List.getElem?_set_ne (Ne.symm hj)] at e2
    obtain ⟨u',r',q⟩:=hl j y v' e1 e2 e3
    refine ⟨u',r',?_⟩
    rcases q with ⟨k,e⟩ | ⟨k,c,e,z⟩
    ·refine .inl ⟨k,?_⟩
     have:y≠x:=fun e=>hj (qgp hN e1 (e ▸ hi))
     simp [this,e]
    ·exact .inr ⟨k,c,e,z.sameBut hs (cne y c e)⟩
  ·obtain ⟨w',z⟩:=I.cell y c e
   exact ⟨w',z.sameBut hs (cne y c e)⟩
  ·obtain ⟨e,n,ne,nf,d⟩:=I.pin p hp
   exact ⟨(hs.2 p.1 ne).trans e,n,ne,nf,d⟩
 ·have hfn:X.fn x=true:=by
   rcases hf with z | z
   ·exact z
   ·rw [z] at hk; cases hk
  obtain ⟨c,hc⟩:=I.ok.has x (.inl hk)
  obtain ⟨w',z⟩:=I.cell x c hc
  refine wpAny_storeName_cell I.ok.kind hk hc z (fun h' hc' hs=>?_)
  obtain ⟨oc,hoc,hocd⟩:=id z
  refine h { s with heap:=h' } ⟨I.ok,I.os,I.bare,⟨fun b o e n hb hx=>?_,fun b o e n hb hx=>?_,I.base.free,fun b o e hx=>?_,I.base.tups,I.base.frzs,I.base.tbls⟩,⟨m,hn.sameBut hs (Ne.symm (cne x c hc)),fun j y v' e1 e2 e3=>?_⟩,fun y c' e=>?_,I.free,I.freeC,fun p hp=>?_,tracked ⟨oc,hoc,I.freeC x c hc⟩ hs,by simpa using I.len⟩ ⟨c,hs,.inr hc⟩
  ·exact (hs.2 b (Nat.ne_of_lt (Nat.lt_of_lt_of_le (Heap.lt_size e) (I.ok.cab x c hfn hc)))).trans (I.base.keep b o e n hb hx)
  ·obtain ⟨sl,e1⟩:=I.base.slot b o e n hb hx
   exact ⟨sl,(hs.2 b (Nat.ne_of_lt (Nat.lt_of_lt_of_le (Heap.lt_size e) (I.ok.cab x c hfn hc)))).trans e1⟩
  ·obtain ⟨o',e1⟩:=I.base.there b o e hx
   exact ⟨o',(hs.2 b (Nat.ne_of_lt (Nat.lt_of_lt_of_le (Heap.lt_size e) (I.ok.cab x c hfn hc)))).trans e1⟩
  ·by_cases hj:j=i
   ·subst hj
    rw [hi] at e1; cases e1
    rw [List.getElem?_set_self hiσ] at e2
    cases e2
    exact ⟨u,r,.inr ⟨.inl hk,c,hc,hc'⟩⟩
   ·rw [List.getElem?_set_ne (Ne.symm hj)] at e2
    obtain ⟨u',r',q⟩:=hl j y v' e1 e2 e3
    refine ⟨u',r',?_⟩
    rcases q with q | ⟨k,c',e,z'⟩
    ·exact .inl q
    ·refine .inr ⟨k,c',e,z'.sameBut hs ?_⟩
     rintro rfl
     exact hj (qgp hN e1 (I.ok.inj _ _ _ e hc ▸ hi))
  ·by_cases hcc:c'=c
   ·subst hcc; exact ⟨_,hc'⟩
   ·obtain ⟨w2,z2⟩:=I.cell y c' e
    exact ⟨w2,z2.sameBut hs hcc⟩
  ·obtain ⟨e,n,ne,nf,d⟩:=I.pin p hp
   refine ⟨(hs.2 p.1 ?_).trans e,n,ne,nf,d⟩
   intro q
   rw [q,hoc] at e
   have q':oc=p.2:=Option.some.inj e
   exact d w' (by rw [<- q']; exact hocd)
theorem qcM {M:Model}{A:Around}{E:Value->Shared->Prop}{i:Nat}{x:Str}{v:V}{u:Value}{Q:Unit->Shared->Prop}(I:Inv X pins σ H s)(hN:X.N.Nodup)(hi:X.N[i]?=some x)(hx:Loc X.env.scope x)(r:RelV v u)
  (h:∀ s',Inv X pins (σ.set i (some v)) H s'->Q () s') (hf:X.fn x=true\/X.env.scope.names.lookup x=some .local:=by first | exact .inl rfl | exact .inr rfl | assumption):wpAny M A (storeName X.env x u) Q E s :=
 qhI I hN hi hx r (fun s' I' _=>h s' I') hf
theorem Inv.call' {s':Shared}{ch:List Addr}(I:Inv X pins σ H s)(ho:s'.os=s.os)(u:Un (frs X.stack) ch H H' s.heap s'.heap)(hok:HOk X.prog X.w H' s'.heap)(hg:AllBare s'.gens)
  (hch:∀ b∈ch,(b∈X.ex\/X.s₀.heap.objs.size≤b)/\b≠X.env.locals/\(∀ x c,X.env.cells.lookup x=some c->c≠b)/\∀ p∈X.pn ++ pins,p.1≠b):Inv X pins σ H' s':=by
 obtain ⟨h',g',d',t',o'⟩:=s'
 have e:o'=s.os:=ho
 subst e
 exact I.call (g':=g') (t':=t') (d':=d') u hok hg hch
end
abbrev XK:=Value->Option Addr->Hp->Prop
abbrev St:=List (Option V)
abbrev VK:=V->Hp->Prop
abbrev TE:=St->Hp->VK->Prop
abbrev TT:=St->Hp->(Bool->Hp->Prop)->Prop
abbrev TA:=St->Hp->(List V->Hp->Prop)->Prop
structure Ends where
 nx:St->Hp->Prop
 rt:VK
 bk:St->Hp->Prop:=fun _ _=>False
 ct:St->Hp->Prop:=fun _ _=>False
abbrev TS:=Ends->St->Hp->Prop
def EP (X:Cx)(pins:List (Addr × Obj))(σ:St)(Q:VK)(u:Value)(s':Shared):Prop:=∃ v H',Inv X pins σ H' s'/\RelV v u/\Q v H'
def TP (X:Cx)(pins:List (Addr × Obj))(σ:St)(Q:Bool->Hp->Prop)(b:Bool)(s':Shared):Prop:=∃ H',Inv X pins σ H' s'/\Q b H'
def AP (X:Cx)(pins:List (Addr × Obj))(σ:St)(Q:List V->Hp->Prop)(us:List Value)(s':Shared):Prop:=∃ vs H',Inv X pins σ H' s'/\Vals vs us/\Q vs H'
def SP (X:Cx)(pins:List (Addr × Obj))(D:Ends)(f:Flow)(s':Shared):Prop :=
 match f with
 | .next=>∃ σ' H',Inv X pins σ' H' s'/\D.nx σ' H'
 | .brk=>∃ σ' H',Inv X pins σ' H' s'/\D.bk σ' H'
 | .cont=>∃ σ' H',Inv X pins σ' H' s'/\D.ct σ' H'
 | .ret u=>∃ v σ' H',Inv X pins σ' H' s'/\RelV v u/\D.rt v H'
def PE (X:Cx)(e:Expr)(t:TE):Prop :=
 ∀ (pins:List (Addr × Obj)) (s:Shared) (σ:St) (H:Hp) (Q:VK),Inv X pins σ H s->t σ H Q->wpAny (model X.prog X.w) X.A (eval e X.env) (EP X pins σ Q) X.xe s
def PT (X:Cx)(e:Expr)(t:TT):Prop :=
 ∀ (pins:List (Addr × Obj)) (s:Shared) (σ:St) (H:Hp) (Q:Bool->Hp->Prop),Inv X pins σ H s->t σ H Q->wpAny (model X.prog X.w) X.A (isTrue e X.env (eval e X.env)) (TP X pins σ Q) X.xe s
def PW (X:Cx)(e:Expr)(t:TT):Prop :=
 ∀ (whole:Sem Value) (pins:List (Addr × Obj)) (s:Shared) (σ:St) (H:Hp) (Q:Bool->Hp->Prop),Inv X pins σ H s->t σ H Q->wpAny (model X.prog X.w) X.A (isTrue e X.env whole) (TP X pins σ Q) X.xe s
theorem PW.pt {X:Cx}{e:Expr}{t:TT}(h:PW X e t):PT X e t:=h _
def PA (X:Cx)(es:List Expr)(t:TA):Prop :=
 ∀ (pos:Pos) (pins:List (Addr × Obj)) (s:Shared) (σ:St) (H:Hp) (Q:List V->Hp->Prop),Inv X pins σ H s->t σ H Q->wpAny (model X.prog X.w) X.A (spliced (backTo pos (starEach es X.env))) (AP X pins σ Q) X.xe s
def PS (X:Cx)(st:Stmt)(t:TS):Prop :=
 ∀ (pins:List (Addr × Obj)) (s:Shared) (σ:St) (H:Hp) (D:Ends),Inv X pins σ H s->t D σ H->wpAny (model X.prog X.w) X.A (exec st X.env) (SP X pins D) X.xe s
def PSs (X:Cx)(st:List Stmt)(t:TS):Prop :=
 ∀ (pins:List (Addr × Obj)) (s:Shared) (σ:St) (H:Hp) (D:Ends),Inv X pins σ H s->t D σ H->wpAny (model X.prog X.w) X.A (execs st X.env) (SP X pins D) X.xe s
theorem thn {α:Type}{t:Sem α}{Q Q':α->Shared->Prop}{M:Model}{A:Around}{E:Value->Shared->Prop}{s:Shared}(h:wpAny M A t Q E s)(hQ:∀ a s,Q a s->Q' a s):wpAny M A t Q' E s:=wpAny_mono h hQ fun _ _ x=>x
section
variable {X:Cx}
def tVar (i:Nat):TE:=fun σ H Q=>∃ v,σ[i]?=some (some v)/\Q v H
def tC (v:V):TE:=fun _ H Q=>Q v H
theorem qmD {i:Nat}{x:Str}{pos:Pos}(hN:X.N[i]?=some x)(hv:Vis X.env.scope x)(hd:(x == ("__debug__" : Str))=false:=by decide)(hcd:(x == ("__classdict__" : Str))=false:=by decide):PE X (.Name x pos) (tVar i):=by
 intro pins s σ H Q I h
 obtain ⟨v,e,h⟩:=h
 obtain ⟨m,hn,hl⟩:=I.loc
 obtain ⟨u,r,l⟩:=hl i x v hN e hv
 have fin:EP X pins σ Q u s:=⟨v,H,I,r,h⟩
 rcases l with ⟨hk,hm⟩ | ⟨hk,c,hc,hcell⟩
 ·exact wpAny_Name (wpAny_loadName_local I.ok.kind hk hn hm fin) hd
 ·rcases hk with hk | hk
  ·exact wpAny_Name (wpAny_loadName_cell I.ok.kind hk hc hcell fin) hd
  ·exact wpAny_Name (wpAny_loadName_free I.ok.kind hk hc hcell fin hcd) hd
theorem pI {i j pos}:PE X (.Constant (.int i) j pos) (tC (.int i)):=fun _ _ _ H _ I h=>wpAny_Constant_int ⟨.int i,H,I.tok _,⟨_,rfl⟩,h⟩
theorem qh8 {b j pos}:PE X (.Constant (.bool b) j pos) (tC (.bl b)):=fun _ _ _ H _ I h=>Constant_bool ⟨.bl b,H,I,rfl,h⟩
def Gl (X:Cx)(x:Str):Prop:=X.env.kindOf x=some .globalImplicit
theorem qiz {E:Value->Shared->Prop}{pins:List (Addr × Obj)}{s:Shared}{σ:St}{H:Hp}{x:Str}{u:Value}{pos:Pos}{Q:Value->Shared->Prop}(I:Inv X pins σ H s)(hg:Gl X x)(hm:X.mg x=some u)(h:Q u s)
  (hd:(x == ("__debug__" : Str))=false:=by decide):wpAny (model X.prog X.w) X.A (eval (.Name x pos) X.env) Q E s :=
 Calls.Name_function_global I.ok.kind hg (Calls.loadGlobal_global (by rw [I.ok.glob]; exact I.mod.glob.keeps I.bk) hm h) hd
theorem qcG {E:Value->Shared->Prop}{pins:List (Addr × Obj)}{s:Shared}{σ:St}{H:Hp}{x:Str}{u:Value}{pos:Pos}{Q:Value->Shared->Prop}(I:Inv X pins σ H s)(hg:Gl X x)(hm:X.mg x=none)(hv:bootBuiltins x=some u)(h:Q u s)
  (hn:x ≠ "__name__" := by decide) (hd:(x == ("__debug__" : Str))=false:=by decide):wpAny (model X.prog X.w) X.A (eval (.Name x pos) X.env) Q E s:=by
 obtain ⟨mb,h1,h2⟩:=I.mod.blt
 exact Calls.Name_function_global I.ok.kind hg (Calls.loadGlobal_builtin (by rw [I.ok.glob]; exact I.mod.glob.keeps I.bk) hm (by rw [I.ok.blt]; exact h1.keeps I.bk) ((h2 x hn).trans hv) h) hd
theorem qlv {x:Str}{v:V}{u:Value}{pos:Pos}(hg:Gl X x)(hm:X.mg x=some u)(r:RelV v u)(hd:(x == ("__debug__" : Str))=false:=by decide):PE X (.Name x pos) (tC v) :=
 fun _ _ _ H _ I h=>qiz I hg hm ⟨v,H,I,r,h⟩ hd
variable {a b:Expr}{ta tb:TE}{pos:Pos}
def tB (t:TE):TT:=fun σ H Q=>t σ H fun x H1=>∃ c,x = .bl c/\Q c H1
theorem qgg {e:Expr}{t:TE}(h:PE X e t)(he:∀ whole,isTrue e X.env whole=(do let v <- whole; standAt e.pos; holding [v] (truthy v)):=by intro _; rfl):PT X e (tB t):=by
 intro pins s σ H Q I hw
 refine isTrue_plain (thn (h pins s σ H _ I hw) fun v s1 ⟨x,H1,I1,r1,q1⟩=>?_) (he _)
 obtain ⟨d,rfl,q⟩:=q1
 cases r1
 exact wpAny_truthy_bool ⟨H1,I1,q⟩
variable {tA tB':TT}{rest:List Expr}
def tAnd (t u:TT):TT:=fun σ H Q=>t σ H fun c H1=>if c=true then u σ H1 Q else Q false H1
def tOr (t u:TT):TT:=fun σ H Q=>t σ H fun c H1=>if c=true then Q true H1 else u σ H1 Q
def tNot (t:TT):TT:=fun σ H Q=>t σ H fun c H1=>Q (!c) H1
theorem qlm (ha:PT X a tA):PW X (.BoolOp .And [a] pos) tA:=by
 intro wh pins s σ H Q I h
 refine isTrue_and (thn (ha pins s σ H Q I h) fun c s1 e=>?_)
 cases c with
 | true=>exact isTrue_and_nil e
 | false=>exact e
theorem qmA (ha:PT X a tA):PW X (.BoolOp .Or [a] pos) tA:=by
 intro wh pins s σ H Q I h
 refine isTrue_or (thn (ha pins s σ H Q I h) fun c s1 e=>?_)
 cases c with
 | false=>exact isTrue_or_nil e
 | true=>exact e
theorem qmB (ha:PT X a tA)(hb:PW X (.BoolOp .And (b :: rest) pos) tB'):PW X (.BoolOp .And (a :: b :: rest) pos) (tAnd tA tB'):=by
 intro wh pins s σ H Q I h
 refine isTrue_and (thn (ha pins s σ H _ I h) fun c s1 ⟨H1,I1,q1⟩=>?_)
 cases c with
 | true=>exact hb wh pins s1 σ H1 Q I1 q1
 | false=>exact ⟨H1,I1,q1⟩
theorem pw_or (ha:PT X a tA)(hb:PW X (.BoolOp .Or (b :: rest) pos) tB'):PW X (.BoolOp .Or (a :: b :: rest) pos) (tOr tA tB'):=by
 intro wh pins s σ H Q I h
 refine isTrue_or (thn (ha pins s σ H _ I h) fun c s1 ⟨H1,I1,q1⟩=>?_)
 cases c with
 | true=>exact ⟨H1,I1,q1⟩
 | false=>exact hb wh pins s1 σ H1 Q I1 q1
theorem qh0 (ha:PT X a tA):PT X (.UnaryOp .Not a pos) (tNot tA):=by
 intro pins s σ H Q I h
 exact isTrue_not (ha pins s σ H (fun c H1=>Q (!c) H1) I h)
def tAndV (ta tb:TE):TE:=fun σ H Q=>ta σ H fun x H1=>∃ c,x = .bl c/\if c=true then tb σ H1 Q else Q (.bl false) H1
def tOrV (ta tb:TE):TE:=fun σ H Q=>ta σ H fun x H1=>∃ c,x = .bl c/\if c=true then Q (.bl true) H1 else tb σ H1 Q
theorem qkR {op}{t:TE}(h:PE X a t):PE X (.BoolOp op [a] pos) t:=fun pins s σ H Q I hw=>BoolOp_one (h pins s σ H Q I hw)
theorem qmF (ha:PE X a ta)(hb:PE X (.BoolOp .And (b :: rest) pos) tb):PE X (.BoolOp .And (a :: b :: rest) pos) (tAndV ta tb):=by
 intro pins s σ H Q I h
 refine BoolOp_and (thn (ha pins s σ H _ I h) fun v s1 ⟨x,H1,I1,r1,q1⟩=>?_)
 obtain ⟨c,rfl,q1⟩:=q1
 cases r1
 refine wpAny_truthy_bool ?_
 cases c with
 | true=>exact hb pins s1 σ H1 Q I1 q1
 | false=>exact ⟨.bl false,H1,I1,rfl,q1⟩
theorem pe_or (ha:PE X a ta)(hb:PE X (.BoolOp .Or (b :: rest) pos) tb):PE X (.BoolOp .Or (a :: b :: rest) pos) (tOrV ta tb):=by
 intro pins s σ H Q I h
 refine BoolOp_or (thn (ha pins s σ H _ I h) fun v s1 ⟨x,H1,I1,r1,q1⟩=>?_)
 obtain ⟨c,rfl,q1⟩:=q1
 cases r1
 refine wpAny_truthy_bool ?_
 cases c with
 | false=>exact hb pins s1 σ H1 Q I1 q1
 | true=>exact ⟨.bl true,H1,I1,rfl,q1⟩
end
def SqL (K:PySem.W.Frag)(H:Hp)(a:Addr)(xs:List V):Prop :=
 Rd H a (.lst xs) \/
  ∃ (o:Obj) (its:Array Value) (n:Nat),K.lookup a=some o/\o.cls = .type "list" /\ o.dict=none/\o.data = .seq its n/\its.size≤sizeLine/\Vals xs its.toList
def SqT (K:PySem.W.Frag)(H:Hp)(a:Addr)(xs:List V):Prop :=
 Rd H a (.tup xs) \/
  ∃ (o:Obj) (its:Array Value) (n:Nat),K.lookup a=some o/\o.cls = .type "tuple" /\ o.data = .seq its n/\its.size≤sizeLine/\Vals xs its.toList
def absV:Value->Option V
 | .none=>some .non
 | .bool b=>some (.bl b)
 | .int i _=>some (.int i)
 | .str x _=>some (.str x)
 | .bytes b _=>some (.byt b)
 | .float b _=>some (.flt b)
 | .ref a=>some (.ref a)
 | .type n=>some (.ty n)
 | _=>none
theorem RelV.abs {x:V}{u:Value}(r:RelV x u):absV u=some x:=by
 cases x with
 | non=>cases r; rfl
 | bl _=>cases r; rfl
 | int _=>obtain ⟨t,rfl⟩:=r; rfl
 | str _=>obtain ⟨t,rfl⟩:=r; rfl
 | byt _=>obtain ⟨t,rfl⟩:=r; rfl
 | flt _=>obtain ⟨t,rfl⟩:=r; rfl
 | ref _=>cases r; rfl
 | ty _=>cases r; rfl
theorem RelV.inj {x y:V}{u:Value}(r:RelV x u)(q:RelV y u):x=y:=Option.some.inj (r.abs.symm.trans q.abs)
theorem Vals.inj:∀ {xs ys:List V} {us:List Value},Vals xs us->Vals ys us->xs=ys
 | _,_,_,.nil,.nil=>rfl
 | _,_,_,.cons r t,.cons r' t'=>by rw [r.inj r',Vals.inj t t']
section
variable {X:Cx}{pins:List (Addr × Obj)}{σ:St}{H:Hp}{s:Shared}{a:Addr}{xs ys:List V}
theorem SqL.of {K:PySem.W.Frag}(h:H a=some (.lst xs)):SqL K H a xs := .inl (.inl h)
theorem SqT.of {K:PySem.W.Frag}(h:H a=some (.tup xs)):SqT K H a xs := .inl (.inl h)
theorem Inv.list (I:Inv X pins σ H s)(h:SqL X.K H a xs):∃ its:List Value,Vals xs its/\PlainL s.heap a its.toArray/\xs.length≤sizeLine:=by
 rcases h with h | ⟨o,its,n,hk,hc,hd,hs,hz,r⟩
 ·obtain ⟨z,its,n,r,e⟩:=h.ok I.hok
  exact ⟨its,r,⟨_,n,e,rfl,rfl,rfl⟩,z⟩
 ·refine ⟨its.toList,r,⟨o,n,I.kIn a o hk,hc,hd,by simpa using hs⟩,?_⟩
  have e:=r.length
  simp only [Array.length_toList] at e
  omega
theorem Inv.tuple (I:Inv X pins σ H s)(h:SqT X.K H a xs):∃ its:List Value,Vals xs its/\IsTup s.heap a its.toArray/\xs.length≤sizeLine:=by
 rcases h with h | ⟨o,its,n,hk,hc,hs,hz,r⟩
 ·obtain ⟨z,its,r,p⟩:=h.ok I.hok
  exact ⟨its,r,p.tup,z⟩
 ·refine ⟨its.toList,r,⟨o,I.kIn a o hk,hc,n,by simpa using hs⟩,?_⟩
  have e:=r.length
  simp only [Array.length_toList] at e
  omega
theorem Inv.list_inj (I:Inv X pins σ H s)(h:SqL X.K H a xs)(h':SqL X.K H a ys):xs=ys:=by
 obtain ⟨its,r,⟨o,n,e,_,_,d⟩,_⟩:=I.list h
 obtain ⟨its',r',⟨o',n',e',_,_,d'⟩,_⟩:=I.list h'
 rw [e] at e'; cases e'
 rw [d] at d'
 injection d' with d1 _
 have:its=its':=by simpa using congrArg Array.toList d1
 subst this
 exact r.inj r'
theorem Inv.tuple_inj (I:Inv X pins σ H s)(h:SqT X.K H a xs)(h':SqT X.K H a ys):xs=ys:=by
 obtain ⟨its,r,⟨o,e,_,n,d⟩,_⟩:=I.tuple h
 obtain ⟨its',r',⟨o',e',_,n',d'⟩,_⟩:=I.tuple h'
 rw [e] at e'; cases e'
 rw [d] at d'
 injection d' with d1 _
 have:its=its':=by simpa using congrArg Array.toList d1
 subst this
 exact r.inj r'
end
abbrev Cx.wish (X:Cx)(E:Value->Shared->Prop):Cx:={ X with xe:=E }
abbrev Cx.nox (X:Cx):Cx:=X.wish fun _ _=>False
theorem Cx.Ok.wish {X:Cx}(ok:X.Ok)(E:Value->Shared->Prop):(X.wish E).Ok :=
 ⟨ok.mod,ok.kind,ok.glob,ok.blt,ok.above,ok.inj,ok.has,ok.cab,ok.hd,ok.frames,ok.stk,ok.exf,ok.bs,ok.bsz,ok.noex,ok.exfs,ok.funs,ok.frf⟩
theorem Cx.Ok.unwish {X:Cx}{E:Value->Shared->Prop}(ok:(X.wish E).Ok):X.Ok :=
 ⟨ok.mod,ok.kind,ok.glob,ok.blt,ok.above,ok.inj,ok.has,ok.cab,ok.hd,ok.frames,ok.stk,ok.exf,ok.bs,ok.bsz,ok.noex,ok.exfs,ok.funs,ok.frf⟩
section
variable {X:Cx}{pins:List (Addr × Obj)}{σ:St}{H:Hp}{s:Shared}{E:Value->Shared->Prop}
theorem Inv.wish (I:Inv X pins σ H s)(E:Value->Shared->Prop):Inv (X.wish E) pins σ H s:=⟨I.ok.wish E,I.os,I.bare,I.base,I.loc,I.cell,I.free,I.freeC,I.pin,I.hok,I.len⟩
theorem Inv.unwish (I:Inv (X.wish E) pins σ H s):Inv X pins σ H s:=⟨I.ok.unwish,I.os,I.bare,I.base,I.loc,I.cell,I.free,I.freeC,I.pin,I.hok,I.len⟩
theorem SP.unwish {D:Ends}{f:Flow}{s':Shared}(h:SP (X.wish E) pins D f s'):SP X pins D f s':=by
 cases f with
 | next=>obtain ⟨σ',H',I,q⟩:=h; exact ⟨σ',H',I.unwish,q⟩
 | brk=>obtain ⟨σ',H',I,q⟩:=h; exact ⟨σ',H',I.unwish,q⟩
 | cont=>obtain ⟨σ',H',I,q⟩:=h; exact ⟨σ',H',I.unwish,q⟩
 | ret u=>obtain ⟨v,σ',H',I,r,q⟩:=h; exact ⟨v,σ',H',I.unwish,r,q⟩
theorem PSs.nox {st:List Stmt}{t:TS}(h:PSs X.nox st t):PSs X st t:=fun pins s σ H D I hw =>
 wpAny_mono (h pins s σ H D (I.wish _) hw) (fun _ _ q=>q.unwish) fun _ _ z=>False.elim z
end
section
variable {X:Cx}{st:Stmt}{rest:List Stmt}{t u:TS}{e:Expr}{te:TE}{pos:Pos}
def tNext:TS:=fun D σ H=>D.nx σ H
def tSeq (t u:TS):TS:=fun D σ H=>t { D with nx:=u D } σ H
theorem qa8:PSs X [] tNext:=fun _ _ σ H _ I h=>wpAny_execs_nil ⟨σ,H,I,h⟩
theorem pK (h1:PS X st t)(h2:PSs X rest u):PSs X (st :: rest) (tSeq t u):=by
 intro pins s σ H D I h
 refine wpAny_execs_cons (thn (h1 pins s σ H { D with nx:=u D } I h) fun f s1 q=>?_)
 cases f with
 | next =>
  obtain ⟨σ',H',I',q⟩:=q
  exact h2 pins s1 σ' H' D I' q
 | ret v=>exact q
 | brk=>exact q
 | cont=>exact q
theorem pO (h1:PS X st t):PSs X [st] t:=by
 intro pins s σ H D I h
 refine wpAny_execs_cons (thn (h1 pins s σ H D I h) fun f s1 q=>?_)
 cases f with
 | next=>exact wpAny_execs_nil q
 | ret v=>exact q
 | brk=>exact q
 | cont=>exact q
theorem Inv.quiet {pins:List (Addr × Obj)}{σ:St}{H:Hp}{s:Shared}(I:Inv X pins σ H s):interactive X.env=false:=by simp [interactive,I.ok.kind]
def tDrop (te:TE):TS:=fun D σ H=>te σ H fun _ H1=>D.nx σ H1
theorem qfx (he:PE X e te)(hs:swapsWith e none pos.line X.env=pure false:=by rfl):PS X (.Expr e pos) (tDrop te):=by
 intro pins s σ H D I h
 exact wpAny_Expr_any (thn (he pins s σ H _ I h) fun v s1 ⟨x,H1,I1,r1,q1⟩=>⟨σ,H1,I1,q1⟩) I.quiet hs
def tRet (te:TE):TS:=fun D σ H=>te σ H D.rt
theorem qan (he:PE X e te):PS X (.Return (some e) pos) (tRet te):=by
 intro pins s σ H D I h
 exact wpAny_Return_some (thn (he pins s σ H _ I h) fun v s1 ⟨x,H1,I1,r1,q1⟩=>⟨x,σ,H1,I1,r1,q1⟩)
def tIfS (c:TT)(t u:TS):TS:=fun D σ H=>c σ H fun b H1=>if b=true then t D σ H1 else u D σ H1
theorem qcr {c:Expr}{a b:List Stmt}{tc:TT}(hc:PT X c tc)(ha:PSs X a t)(hb:PSs X b u):PS X (.If c a b pos) (tIfS tc t u):=by
 intro pins s σ H D I h
 refine wpAny_If (thn (hc pins s σ H _ I h) fun d s1 ⟨H1,I1,q1⟩=>?_)
 cases d with
 | true=>exact ha pins s1 σ H1 D I1 q1
 | false=>exact hb pins s1 σ H1 D I1 q1
def qmq:TS:=fun _ _ _=>False
theorem qgj:PS X st qmq:=fun _ _ _ _ _ _ h=>h.elim
end
abbrev TG:=V->St->Hp->(St->Hp->Prop)->Prop
abbrev TGs:=List V->St->Hp->(St->Hp->Prop)->Prop
def PG (X:Cx)(target:Expr)(t:TG):Prop :=
 ∀ (pins:List (Addr × Obj)) (s:Shared) (σ:St) (H:Hp) (v:V) (u:Value) (Q:St->Hp->Prop),Inv X pins σ H s->RelV v u->t v σ H Q ->
  wpAny (model X.prog X.w) X.A (assign target X.env u) (fun _ s'=>∃ σ' H',Inv X pins σ' H' s'/\Q σ' H') X.xe s
def PGs (X:Cx)(ts:List Expr)(t:TGs):Prop :=
 ∀ (pins:List (Addr × Obj)) (s:Shared) (σ:St) (H:Hp) (vs:List V) (us:List Value) (Q:St->Hp->Prop),Inv X pins σ H s->Vals vs us->t vs σ H Q ->
  wpAny (model X.prog X.w) X.A (assignInOrder ((assignEach ts X.env).map (·.2)) us) (fun _ s'=>∃ σ' H',Inv X pins σ' H' s'/\Q σ' H') X.xe s
abbrev TSet:=V->V->V->Hp->(Hp->Prop)->Prop
def PSet (X:Cx)(t:TSet):Prop :=
 ∀ (pins:List (Addr × Obj)) (s:Shared) (σ:St) (H:Hp) (o i v:V) (ov iv u:Value) (Q:Hp->Prop),Inv X pins σ H s->RelV o ov->RelV i iv->RelV v u->t o i v H Q ->
  wpAny (model X.prog X.w) X.A (setItem ov iv u) (fun _ s'=>∃ H',Inv X pins σ H' s'/\Q H') X.xe s
abbrev TIp:=V->V->Hp->VK->Prop
def PIp (X:Cx)(op:Operator)(t:TIp):Prop :=
 ∀ (pins:List (Addr × Obj)) (s:Shared) (σ:St) (H:Hp) (x y:V) (v u:Value) (Q:VK),Inv X pins σ H s->RelV x v->RelV y u->t x y H Q ->
  wpAny (model X.prog X.w) X.A (inplaceOp op v u) (EP X pins σ Q) X.xe s
section
variable {X:Cx}{pos:Pos}
def qcK (i:Nat):TG:=fun v σ H Q=>Q (σ.set i (some v)) H
theorem pG {i:Nat}{x:Str}(hN:X.N.Nodup)(hi:X.N[i]?=some x)(hx:Loc X.env.scope x)(hf:X.fn x=true\/X.env.scope.names.lookup x=some .local:=by first | exact .inl rfl | exact .inr rfl | assumption):PG X (.Name x pos) (qcK i):=by
 intro pins s σ H v u Q I r h
 exact wpAny_assign_Name (qcM I hN hi hx r (fun s' I'=>⟨_,H,I',h⟩) hf)
def gNil:TGs:=fun vs σ H Q=>vs=[]/\Q σ H
def ql5 (t:TG)(u:TGs):TGs:=fun vs σ H Q=>∃ v r,vs=v :: r/\t v σ H fun σ' H'=>u r σ' H' Q
theorem qas:PGs X [] gNil:=by
 intro pins s σ H vs us Q I r h
 obtain ⟨e,h⟩:=h
 subst e
 cases r
 exact assignInOrder_nil ⟨σ,H,I,h⟩
theorem qab {e:Expr}{es:List Expr}{t:TG}{u:TGs}(h1:PG X e t)(h2:PGs X es u)
  (hs:(assignEach (e :: es) X.env).map (·.2)=assign e X.env :: (assignEach es X.env).map (·.2):=by rfl):PGs X (e :: es) (ql5 t u):=by
 intro pins s σ H vs us Q I r h
 obtain ⟨v,vr,e1,h⟩:=h
 subst e1
 cases r with
 | cons r rr =>
  rw [hs]
  refine assignInOrder_cons (thn (h1 pins s σ H _ _ _ I r h) fun _ s1 ⟨σ1,H1,I1,q1⟩=>?_)
  exact h2 pins s1 σ1 H1 _ _ Q I1 rr q1
def gTup (K:PySem.W.Frag)(n:Nat)(t:TGs):TG:=fun v σ H Q=>∃ a xs,v = .ref a/\SqT K H a xs/\xs.length=n/\t xs σ H Q
theorem qbs {es:List Expr}{k:Nat}{t:TGs}{n:Nat}(hc:X.calm=true)(h:PGs X es t)
  (hn:(assignEach es X.env).length=n:=by rfl) (hst:(assignEach es X.env).findIdx? (·.1)=none:=by rfl):PG X (.Tuple es k pos) (gTup X.K n t):=by
 intro pins s σ H v u Q I r hw
 obtain ⟨a,xs,e1,hq,hl,hw⟩:=hw
 subst e1
 cases r
 obtain ⟨its,rv,ht,hz⟩:=I.tuple hq
 refine assign_Tuple_tuple (I.ok.hd hc) ht (by simp [hn,<- hl,rv.length]) hst fun h' hx=>?_
 have I1:Inv X pins σ H { s with heap:=h' }:=I.kept (t':=s.toks) fun b o e=>hx b o (Nat.ne_of_lt (Heap.lt_size e)) e
 exact h pins _ σ H xs _ Q I1 (by simpa using rv) hw
def gSub (to ti:TE)(t:TSet):TG:=fun v σ H Q=>to σ H fun o H1=>ti σ H1 fun i H2=>t o i v H2 fun H3=>Q σ H3
theorem qgn {o i:Expr}{to ti:TE}{t:TSet}(ho:PE X o to)(hi:PE X i ti)(hs:PSet X t)
  (ha:∀ v,assign (.Subscript o i pos) X.env v=(do
    let ov <- holding [v] (eval o X.env)
    let iv <- holding [v,ov] (eval i X.env)
    standAt pos
    holding [v,ov,iv] (setItem ov iv v)
    release [v,ov,iv] []):=by intro _; rfl):PG X (.Subscript o i pos) (gSub to ti t):=by
 intro pins s σ H v u Q I r h
 rw [ha]
 refine wpAny_bind (wpAny_holding (thn (ho pins s σ H _ I h) fun ov s1 ⟨x,H1,I1,r1,q1⟩=>?_))
 refine wpAny_bind (wpAny_holding (thn (hi pins s1 σ H1 _ I1 q1) fun iv s2 ⟨y,H2,I2,r2,q2⟩=>?_))
 refine wpAny_bind (wpAny_standAt (wpAny_bind (wpAny_holding (thn (hs pins s2 σ H2 x y v ov iv u _ I2 r1 r2 r q2) fun _ s3 ⟨H3,I3,q3⟩=>?_))))
 exact wpAny_release ⟨σ,H3,I3,q3⟩
def tAsg (te:TE)(g:TG):TS:=fun D σ H=>te σ H fun x H1=>g x σ H1 D.nx
theorem qbH {tg e:Expr}{te:TE}{g:TG}(he:PE X e te)(hg:PG X tg g)(hs:swapsWithSole [tg] e pos.line X.env=pure false:=by rfl)(hw:swappedStores [tg] e X.env=pure none:=by rfl)
  (h1:(assignEach [tg] X.env).map (·.2)=[assign tg X.env]:=by rfl):PS X (.Assign [tg] e pos) (tAsg te g):=by
 intro pins s σ H D I h
 refine wpAny_Assign_stores (thn (he pins s σ H _ I h) fun v s1 ⟨x,H1,I1,r1,q1⟩=>?_) hs hw
 rw [h1]
 exact thn (hg pins s1 σ H1 x v _ I1 r1 q1) fun _ s2 q=>q
theorem pZ {i:Nat}{x:Str}{e:Expr}{te:TE}{pos':Pos}(hN:X.N.Nodup)(hi:X.N[i]?=some x)(hx:Loc X.env.scope x)(he:PE X e te)(hs:swapsWith e (some (.Name x pos')) pos.line X.env=pure false:=by rfl)(hf:X.fn x=true\/X.env.scope.names.lookup x=some .local:=by first | exact .inl rfl | exact .inr rfl | assumption) :
  PS X (.Assign [.Name x pos'] e pos) (tAsg te (qcK i)):=by
 intro pins s σ H D I h
 refine wpAny_Assign_Name (thn (he pins s σ H _ I h) fun v s1 ⟨y,H1,I1,r1,q1⟩=>?_) hs
 exact qcM I1 hN hi hx r1 (fun s2 I2=>⟨_,H1,I2,q1⟩) hf
def tPar (i j:Nat)(ta:TA):TS:=fun D σ H=>ta σ H fun vs H1=>∃ v w,vs=[v,w]/\D.nx ((σ.set i (some v)).set j (some w)) H1
theorem qgi {i j:Nat}{x y:Str}{a b:Expr}{ta:TA}{px py pt:Pos}{kt k2 pt2}(hc:X.calm=true)(hN:X.N.Nodup)(hi:X.N[i]?=some x)(hj:X.N[j]?=some y)(hij:i≠j)
  (hx:X.env.scope.names.lookup x=some .local) (hy:X.env.scope.names.lookup y=some .local) (ha:PA X [a,b] ta)
  (hw:swappedStores [.Tuple [.Name x px,.Name y py] kt pt] (.Tuple [a,b] k2 pt2) X.env=pure (some [x,y]))
  (hs:swapsWithSole [.Tuple [.Name x px,.Name y py] kt pt] (.Tuple [a,b] k2 pt2) pos.line X.env=pure false:=by rfl) :
  PS X (.Assign [.Tuple [.Name x px,.Name y py] kt pt] (.Tuple [a,b] k2 pt2) pos) (tPar i j ta):=by
 intro pins s σ H D I h
 rw [exec_Assign_arm]
 refine wpAny_bind (wpAny_standAt ?_)
 rw [hs]
 refine wpAny_bind (wpAny_pure ?_)
 rw [if_neg (by decide)]
 refine wpAny_bind (Tuple_ (thn (ha _ pins s σ H _ I h) fun us s1 ⟨vs,H1,I1,r1,q1⟩=>?_))
 obtain ⟨v,w,e1,q1⟩:=q1
 subst e1
 obtain ⟨u1,u2,rfl,rv,rw'⟩:∃ u1 u2,us=[u1,u2]/\RelV v u1/\RelV w u2:=by
  cases r1 with
  | cons p q =>
   cases q with
   | cons p' q' =>
    cases q'
    exact ⟨_,_,rfl,p,p'⟩
 refine wpAny_newObj_type ?_ (by show 2≤sizeLine; decide)
 have I2:Inv X pins σ H1 { s1 with heap:=s1.heap.push { cls := .type "tuple",data := .seq [u1,u2].toArray } }:=I1.kept (t':=s1.toks) fun b o e=>Heap.get?_push_of_some _ e
 rw [hw]
 refine wpAny_bind (wpAny_pure ?_)
 show wpAny (model X.prog X.w) X.A (do rule "assign.swapped-stores"; let items <- unpackItems (.ref s1.heap.objs.size) 2 none; assignInOrder [fun v=>bindName X.env y v,fun v=>bindName X.env x v] items.reverse; pure Flow.next) _ _ _
 refine wpAny_bind (wpAny_rule (wpAny_bind (unpackItems_tuple (items:=#[u1,u2]) (I.ok.hd hc) (IsTup.new s1.heap _) fun h' hx'=>?_)))
 have I3:=I2.kept (h':=h') (t':=s1.toks) fun b o e=>hx' b o (Nat.ne_of_lt (Heap.lt_size e)) e
 show wpAny _ _ (assignInOrder [fun v=>bindName X.env y v,fun v=>bindName X.env x v] [u2,u1] >>= fun _=>pure Flow.next) _ _ _
 refine wpAny_bind (assignInOrder_cons (wpAny_bindName (qcM I3 hN hj (.inl hy) rw' (fun s2 I4=>?_) (.inr hy))))
 refine assignInOrder_cons (wpAny_bindName (qcM I4 hN hi (.inl hx) rv (fun s3 I5=>assignInOrder_nil (wpAny_pure ?_)) (.inr hx)))
 rw [List.set_comm _ _ (Ne.symm hij)] at I5
 exact ⟨_,H1,I5,q1⟩
def tAugS (to ti te:TE)(tget:V->V->Hp->VK->Prop)(tip:TIp)(tset:TSet):TS:=fun D σ H=>to σ H fun o H1=>ti σ H1 fun i H2=>tget o i H2 fun x H3=>te σ H3 fun y H4=>tip x y H4 fun z H5=>tset o i z H5 fun H6=>D.nx σ H6
def PGet (X:Cx)(t:V->V->Hp->VK->Prop):Prop :=
 ∀ (pins:List (Addr × Obj)) (s:Shared) (σ:St) (H:Hp) (o i:V) (ov iv:Value) (Q:VK),Inv X pins σ H s->RelV o ov->RelV i iv->t o i H Q ->
  wpAny (model X.prog X.w) X.A (getItem ov iv) (EP X pins σ Q) X.xe s
theorem qh1 {o i e:Expr}{to ti te:TE}{tget:V->V->Hp->VK->Prop}{tip:TIp}{tset:TSet}{op:Operator}{tpos:Pos}(ho:PE X o to)(hi:PE X i ti)(hg:PGet X tget)(he:PE X e te)(hp:PIp X op tip)(hs:PSet X tset)
  (ha:∀ ov iv new,augStore i ov iv new=(do holding [new,ov,iv] (setItem ov iv new); release [new,ov,iv] []; pure .next):=by intros; rfl):PS X (.AugAssign (.Subscript o i tpos) op e pos) (tAugS to ti te tget tip tset):=by
 intro pins s σ H D I h
 refine wpAny_AugAssign_SubscriptAny (thn (ho pins s σ H _ I h) fun ov s1 ⟨x1,H1,I1,r1,q1⟩=>?_) ha
 refine thn (hi pins s1 σ H1 _ I1 q1) fun iv s2 ⟨x2,H2,I2,r2,q2⟩=>?_
 refine thn (hg pins s2 σ H2 x1 x2 ov iv _ I2 r1 r2 q2) fun old s3 ⟨x3,H3,I3,r3,q3⟩=>?_
 refine thn (he pins s3 σ H3 _ I3 q3) fun v s4 ⟨x4,H4,I4,r4,q4⟩=>?_
 refine thn (hp pins s4 σ H4 x3 x4 old v _ I4 r3 r4 q4) fun new s5 ⟨x5,H5,I5,r5,q5⟩=>?_
 exact thn (hs pins s5 σ H5 x1 x2 x5 ov iv new _ I5 r1 r2 r5 q5) fun _ s6 ⟨H6,I6,q6⟩=>⟨σ,H6,I6,q6⟩
def ipI (f:Int->Int->Int):TIp:=fun x y H Q=>∃ i j,x = .int i/\y = .int j/\Q (.int (f i j)) H
theorem qk0:PIp X .Add (ipI fun i j=>i + j):=by
 intro pins s σ H x y v u Q I r1 r2 h
 obtain ⟨i,j,e1,e2,q⟩:=h
 subst e1; subst e2
 obtain ⟨t,rfl⟩:=r1
 obtain ⟨t',rfl⟩:=r2
 exact iadd_int ⟨.int _,H,I.tok _,⟨_,rfl⟩,q⟩
end
section
variable {X:Cx}{pos:Pos}
def qkD (c:TT)(tb:TS):TS:=fun D σ H=>∃ W:Nat->St->Hp->Prop,(∃ m,W m σ H)/\∀ m σ H,W m σ H ->
 c σ H fun b H1=>if b=true then ∃ N:St->Hp->Prop,(∀ σ' H',N σ' H'->∃ m',m' < m/\W m' σ' H')/\tb { D with nx:=N,ct:=N,bk:=D.nx } σ H1 else D.nx σ H1
theorem qgh {c:Expr}{body:List Stmt}{tc:TT}{tb:TS}(hp:PassesOwn (model X.prog X.w) X.A X.env X.xe)(hc:PT X c tc)(hb:PSs X body tb):PS X (.While c body [] pos) (qkD tc tb):=by
 intro pins s σ H D I h
 obtain ⟨W,⟨m0,w0⟩,turn⟩:=h
 refine wpAny_While (codeAny_whileLoop (fun n s'=>∃ σ' H',Inv X pins σ' H' s'/\W n σ' H') ?_ m0 ⟨σ,H,I,w0⟩)
 rintro n s1 ⟨σ1,H1,I1,w1⟩
 refine wpAny_passesOwn hp (thn (hc pins s1 σ1 H1 _ I1 (turn n σ1 H1 w1)) fun b s2 ⟨H2,I2,q2⟩=>?_)
 cases b with
 | true =>
  obtain ⟨N,hN,q2⟩:=q2
  rw [if_pos rfl]
  refine wpAny_passesOwn hp (thn (hb pins s2 σ1 H2 _ I2 q2) fun f s3 q3=>?_)
  cases f with
  | next =>
   obtain ⟨σ3,H3,I3,n3⟩:=q3
   obtain ⟨m',hm,w3⟩:=hN σ3 H3 n3
   exact ⟨m',hm,σ3,H3,I3,w3⟩
  | cont =>
   obtain ⟨σ3,H3,I3,n3⟩:=q3
   obtain ⟨m',hm,w3⟩:=hN σ3 H3 n3
   exact ⟨m',hm,σ3,H3,I3,w3⟩
  | brk=>exact q3
  | ret v=>exact q3
 | false =>
  rw [if_neg Bool.false_ne_true]
  exact wpAny_execs_nil ⟨σ1,H2,I2,q2⟩
end
structure It where
 go:Nat->Hp->Prop
 yld:Nat->Hp->V->Hp->Prop
 stop:Nat->Hp->Prop
def FpOk (X:Cx)(pins:List (Addr × Obj))(H:Hp)(b:Addr):Prop :=
 H b=none/\b≠X.env.locals/\b ∉ X.fs/\(b∈X.ex\/X.s₀.heap.objs.size≤b)/\(∀ x c,X.env.cells.lookup x=some c->c≠b)/\∀ p∈X.pn ++ pins,p.1≠b
theorem Inv.fpOk {X:Cx}{pins:List (Addr × Obj)}{σ:St}{H H':Hp}{s:Shared}{b:Addr}(I:Inv X pins σ H s)(hb:s.heap.objs.size≤b)(hn:H' b=none):FpOk X pins H' b:=by
 refine ⟨hn,Nat.ne_of_gt (Nat.lt_of_lt_of_le I.lt hb),I.nofs hb,.inr (Nat.le_trans I.sz hb),fun x c e z=>?_,fun p hp z=>?_⟩
 ·obtain ⟨v,q⟩:=I.cell x c e
  exact absurd (Nat.lt_of_lt_of_le q.lt (by rw [z]; exact hb)) (Nat.lt_irrefl _)
 ·exact absurd (Nat.lt_of_lt_of_le (Heap.lt_size (I.pin p hp).1) (by rw [z]; exact hb)) (Nat.lt_irrefl _)
structure Turn (P:Program)(w:World)(K:PySem.W.Frag)(tg:Expr)(J:It)(fp:List Addr)(it:Addr)(tn:Nat->Heap->Prop):Prop where
 mem:it∈fp
 obj:∀ i h,tn i h->∀ b∈fp,∃ o,h.get? b=some o/\∀ v,o.data ≠ .cell v
 keep:∀ i h h',tn i h->(∀ b∈fp,∀ o,h.get? b=some o->h'.get? b=some o)->tn i h'
 item:∀ (X:Cx),X.prog=P->X.w=w->X.K=K->X.calm=true->∀ (i:Nat) (pins:List (Addr × Obj)) (s:Shared) (σ:St) (H:Hp) (E:Value->Shared->Prop),Inv X pins σ H s->(∀ b∈fp,FpOk X pins H b)->tn i s.heap->J.go i H ->
  wpAny (model P w) X.A (pyNext (.ref it)) (fun r s1=>∃ u,r=some u /\
   wpAny (model P w) X.A (letOwnedTupleGo tg (.ref it) u) (fun _ s2=>∃ x H',Inv X pins σ H' s2/\RelV x u/\J.yld i H x H'/\tn (i + 1) s2.heap/\∀ b∈fp,H' b=none) E s1) E s
 done:∀ (X:Cx),X.prog=P->X.w=w->X.K=K->X.calm=true->∀ (i:Nat) (pins:List (Addr × Obj)) (s:Shared) (σ:St) (H:Hp) (E:Value->Shared->Prop),Inv X pins σ H s->(∀ b∈fp,FpOk X pins H b)->tn i s.heap->J.stop i H ->
  wpAny (model P w) X.A (pyNext (.ref it)) (fun r s1=>r=none/\Inv X pins σ H s1) E s
 self:∀ (A:Around) (i:Nat) (s:Shared) (Q:Value->Shared->Prop) (E:Value->Shared->Prop),tn i s.heap->Q (.ref it) s->wpAny (model P w) A (pyIter (.ref it)) Q E s
abbrev TI:=St->Hp->(It->Hp->Prop)->Prop
def PIE (X:Cx)(pins:List (Addr × Obj))(σ:St)(tg:Expr)(R:It->Hp->Prop)(itv:Value)(s2:Shared):Prop :=
 ∃ (it:Addr) (fp:List Addr) (tn:Nat->Heap->Prop) (J:It) (H':Hp),itv = .ref it/\Inv X pins σ H' s2/\Turn X.prog X.w X.K tg J fp it tn/\tn 0 s2.heap/\(∀ b∈fp,FpOk X pins H' b)/\R J H'
def PI (X:Cx)(tg iter:Expr)(wi:TI):Prop :=
 ∀ (pins:List (Addr × Obj)) (s:Shared) (σ:St) (H:Hp) (R:It->Hp->Prop),Inv X pins σ H s->wi σ H R ->
  wpAny (model X.prog X.w) X.A (eval iter X.env) (fun v s1=>wpAny (model X.prog X.w) X.A (pyIter v) (PIE X pins σ tg R) X.xe s1) X.xe s
theorem ql2 {M:Model}{A:Around}{E:Value->Shared->Prop}{s:Shared}{tg:Expr}{it:Addr}{u:Value}{o:Obj}{n:String}{vs:Array Value}{Q:Unit->Shared->Prop}(ho:s.heap.get? it=some o)(hc:o.cls = .type n)(hd:o.data = .fields vs)
  (hn:["enumerate", "zip", "dict_itemiterator", "dict_reverseitemiterator", "odict_iterator", "itertools.zip_longest", "itertools.pairwise"].contains n=false) (hQ:Q () s):wpAny M A (letOwnedTupleGo tg (.ref it) u) Q E s:=by
 unfold letOwnedTupleGo
 cases tg <;> first
  | exact wpAny_pure hQ
  | (cases u <;> first
      | exact wpAny_pure hQ
      | (refine wpAny_bind (wpAny_load ho ?_)
         rw [hc,hd]
         show wpAny M A (if (["enumerate", "zip", "dict_itemiterator", "dict_reverseitemiterator", "odict_iterator", "itertools.zip_longest", "itertools.pairwise"].contains n && vs[0]? == some (rawInt _))=true then _ else _) Q E s
         rw [if_neg (by intro h; rw [hn,Bool.false_and] at h; cases h)]
         exact wpAny_pure hQ))
def Itl (K:PySem.W.Frag)(a:Addr):It :=
 ⟨fun i H=>∃ xs x,SqL K H a xs/\xs[i]?=some x,fun i H x H'=>H'=H/\∀ xs,SqL K H a xs->xs[i]?=some x,fun i H=>∃ xs,SqL K H a xs/\xs.length≤i⟩
def Itt (K:PySem.W.Frag)(a:Addr):It :=
 ⟨fun i H=>∃ xs x,SqT K H a xs/\xs[i]?=some x,fun i H x H'=>H'=H/\∀ xs,SqT K H a xs->xs[i]?=some x,fun i H=>∃ xs,SqT K H a xs/\xs.length≤i⟩
def Itr (lo:Int)(n:Nat):It:=⟨fun i _=>i < n,fun i H x H'=>H'=H/\x = .int (lo + i),fun i _=>n≤i⟩
theorem qhw {P:Program}{w:World}{K:PySem.W.Frag}{tg:Expr}(a it:Addr):Turn P w K tg (Itl K a) [it] it (fun i h=>h.IsListIter it a i) where
 mem:=by simp
 obj:=fun i h st b hb=>by
  have e:b=it:=by simpa using hb
  subst e
  obtain ⟨o,e,c,d⟩:=st
  exact ⟨o,e,fun v z=>by rw [d] at z; cases z⟩
 keep:=fun i h h' st k=>st.at fun o e=>k it (by simp) o e
 item:=by
  intro X hP hw hK hc i pins s σ H E I hf st hg
  subst hP hw hK
  obtain ⟨xs,x,hq,hx⟩:=hg
  obtain ⟨its,rv,p,hz⟩:=I.list hq
  obtain ⟨u,hu,ru⟩:=rv.get hx
  obtain ⟨f0,f1,f2,f3,f4,f5⟩:=hf it (by simp)
  refine wpAny_pyNext_list_item st p.isList (x:=u) (by simpa using hu) fun h' st' sb=>?_
  have I1:Inv X pins σ H { s with heap:=h' }:=I.turned (t':=s.toks) (fun b o hb e=>(sb.2 b hb).trans e) f0 f1 f3 f4 f5
  obtain ⟨o,e,c,d⟩:=id st'
  exact ⟨u,rfl,ql2 (s:={ s with heap:=h' }) e c d (by decide) ⟨x,H,I1,ru,⟨rfl,fun ys hy=>by rw [I.list_inj hy hq]; exact hx⟩,st',fun b hb=>(hf b hb).1⟩⟩
 done:=by
  intro X hP hw hK hc i pins s σ H E I hf st hg
  subst hP hw hK
  obtain ⟨xs,hq,hx⟩:=hg
  obtain ⟨its,rv,p,hz⟩:=I.list hq
  obtain ⟨f0,f1,f2,f3,f4,f5⟩:=hf it (by simp)
  have hl:=rv.length
  exact wpAny_pyNext_list_end (I.ok.hd hc) st p.isList (by simp; omega) fun h' eb=>⟨rfl,I.turned (t':=s.toks) (fun b o hb e=>eb b o hb e) f0 f1 f3 f4 f5⟩
 self:=fun _ _ _ _ _ st h=>wpAny_pyIter_listiter st h
theorem qgR {P:Program}{w:World}{K:PySem.W.Frag}{tg:Expr}(a it:Addr):Turn P w K tg (Itt K a) [it] it (fun i h=>h.IsTupleIter it a i) where
 mem:=by simp
 obj:=fun i h st b hb=>by
  have e:b=it:=by simpa using hb
  subst e
  obtain ⟨o,e,c,d⟩:=st
  exact ⟨o,e,fun v z=>by rw [d] at z; cases z⟩
 keep:=fun i h h' st k=>st.at fun o e=>k it (by simp) o e
 item:=by
  intro X hP hw hK hc i pins s σ H E I hf st hg
  subst hP hw hK
  obtain ⟨xs,x,hq,hx⟩:=hg
  obtain ⟨its,rv,p,hz⟩:=I.tuple hq
  obtain ⟨u,hu,ru⟩:=rv.get hx
  obtain ⟨f0,f1,f2,f3,f4,f5⟩:=hf it (by simp)
  refine wpAny_pyNext_tuple_item st (show s.heap.IsTuple a its.toArray from p) (x:=u) (by simpa using hu) fun h' st' sb=>?_
  have I1:Inv X pins σ H { s with heap:=h' }:=I.turned (t':=s.toks) (fun b o hb e=>(sb.2 b hb).trans e) f0 f1 f3 f4 f5
  obtain ⟨o,e,c,d⟩:=id st'
  exact ⟨u,rfl,ql2 (s:={ s with heap:=h' }) e c d (by decide) ⟨x,H,I1,ru,⟨rfl,fun ys hy=>by rw [I.tuple_inj hy hq]; exact hx⟩,st',fun b hb=>(hf b hb).1⟩⟩
 done:=by
  intro X hP hw hK hc i pins s σ H E I hf st hg
  subst hP hw hK
  obtain ⟨xs,hq,hx⟩:=hg
  obtain ⟨its,rv,p,hz⟩:=I.tuple hq
  obtain ⟨f0,f1,f2,f3,f4,f5⟩:=hf it (by simp)
  have hl:=rv.length
  exact wpAny_pyNext_tuple_end (I.ok.hd hc) st (show s.heap.IsTuple a its.toArray from p) (by simp; omega) fun h' eb=>⟨rfl,I.turned (t':=s.toks) (fun b o hb e=>eb b o hb e) f0 f1 f3 f4 f5⟩
 self:=fun _ _ _ _ _ st h=>wpAny_pyIter_tupleiter st h
theorem qgS {P:Program}{w:World}{K:PySem.W.Frag}{tg:Expr}(it:Addr)(lo:Int)(n:Nat):Turn P w K tg (Itr lo n) [it] it (fun i h=>IsRangeIter h it (lo + (i:Nat) * 1) ((n:Int) - (i:Nat)) 1) where
 mem:=by simp
 obj:=fun i h st b hb=>by
  have e:b=it:=by simpa using hb
  subst e
  exact ⟨_,st,fun v z=>by
   have z':Data.fields _=Data.cell v:=z
   cases z'⟩
 keep:=fun i h h' st k=>k it (by simp) _ st
 item:=by
  intro X hP hw hK hc i pins s σ H E I hf st hg
  subst hP hw hK
  obtain ⟨f0,f1,f2,f3,f4,f5⟩:=hf it (by simp)
  have W:=Walks.range (prog:=X.prog) (w:=X.w) (I.ok.hd hc) it lo 1 n
  refine W.item i s _ _ hg st fun v h' tk hv st' kk=>?_
  obtain ⟨t,rfl⟩:=hv
  have I1:Inv X pins σ H { s with heap:=h',toks:=tk }:=I.turned (fun b o hb e=>kk b o (by simpa using hb) e) f0 f1 f3 f4 f5
  refine ⟨_,rfl,ql2 (s:={ s with heap:=h',toks:=tk }) (n := "range_iterator") st' rfl rfl (by decide) ⟨.int (lo + i),H,I1,⟨t,?_⟩,⟨rfl,rfl⟩,st',fun b hb=>(hf b hb).1⟩⟩
  rw [Int.mul_one]
 done:=by
  intro X hP hw hK hc i pins s σ H E I hf st hg
  subst hP hw hK
  obtain ⟨f0,f1,f2,f3,f4,f5⟩:=hf it (by simp)
  exact wpAny_pyNext_range_end (I.ok.hd hc) st (by have:n≤i:=hg; omega) fun h' eb=>⟨rfl,I.turned (t':=s.toks) (fun b o hb e=>eb b o hb e) f0 f1 f3 f4 f5⟩
 self:=fun _ _ _ _ _ st h=>wpAny_pyIter_rangeiter st h
section
variable {X:Cx}{tg:Expr}
def iList (K:PySem.W.Frag)(tl:TE):TI:=fun σ H R=>tl σ H fun x H1=>∃ a,x = .ref a/\(∃ xs,SqL K H1 a xs)/\R (Itl K a) H1
def iTup (K:PySem.W.Frag)(tl:TE):TI:=fun σ H R=>tl σ H fun x H1=>∃ a,x = .ref a/\(∃ xs,SqT K H1 a xs)/\R (Itt K a) H1
theorem qaS {l:Expr}{tl:TE}(hl:PE X l tl):PI X tg l (iList X.K tl):=by
 intro pins s σ H R I h
 refine thn (hl pins s σ H _ I h) fun v s1 ⟨x,H1,I1,r1,q1⟩=>?_
 obtain ⟨a,e,⟨xs,hq⟩,q⟩:=q1
 subst e
 cases r1
 obtain ⟨its,rv,p,hz⟩:=I1.list hq
 refine wpAny_pyIter_list p.isList ?_
 refine ⟨s1.heap.objs.size,[s1.heap.objs.size],_,_,H1,rfl,I1.kept (t':=s1.toks) fun b o e=>Heap.get?_push_of_some _ e,qhw a _,⟨_,Heap.get?_push_size _ rfl,rfl,rfl⟩,fun b hb=>?_,q⟩
 have e:b=s1.heap.objs.size:=by simpa using hb
 subst e
 exact I1.fpOk (Nat.le_refl _) (I1.hok.fresh (Nat.le_refl _))
theorem qkQ {l:Expr}{tl:TE}(hl:PE X l tl):PI X tg l (iTup X.K tl):=by
 intro pins s σ H R I h
 refine thn (hl pins s σ H _ I h) fun v s1 ⟨x,H1,I1,r1,q1⟩=>?_
 obtain ⟨a,e,⟨xs,hq⟩,q⟩:=q1
 subst e
 cases r1
 obtain ⟨its,rv,p,hz⟩:=I1.tuple hq
 refine wpAny_pyIter_tuple (show s1.heap.IsTuple a its.toArray from p) ?_
 refine ⟨s1.heap.objs.size,[s1.heap.objs.size],_,_,H1,rfl,I1.kept (t':=s1.toks) fun b o e=>Heap.get?_push_of_some _ e,qgR a _,⟨_,Heap.get?_push_size _ rfl,rfl,rfl⟩,fun b hb=>?_,q⟩
 have e:b=s1.heap.objs.size:=by simpa using hb
 subst e
 exact I1.fpOk (Nat.le_refl _) (I1.hok.fresh (Nat.le_refl _))
theorem qge {pins:List (Addr × Obj)}{σ:St}{H:Hp}{s:Shared}{R:It->Hp->Prop}{E:Value->Shared->Prop}{lo hi:Int}{t u v:Tok}{tk:Nat}(I:Inv X pins σ H s)(h1:-(2 ^ 62)≤lo)(h2:lo < 2 ^ 62)(h3:-(2 ^ 62)≤hi)(h4:hi < 2 ^ 62)
  (q:R (Itr lo (hi - lo).toNat) H):wpAny (model X.prog X.w) X.A (pyIter (.ref s.heap.objs.size)) (PIE X pins σ tg R) E { s with heap:=s.heap.push { cls := .type "range",data := .fields #[.int lo t,.int hi u,.int 1 v] },toks:=tk }:=by
 refine wpAny_pyIter_range (IsRange.new ..) (small_one h1 h2 h3 h4) ?_
 have I1:Inv X pins σ H { s with heap:=s.heap.push { cls := .type "range",data := .fields #[.int lo t,.int hi u,.int 1 v] },toks:=tk }:=I.kept fun b o e=>Heap.get?_push_of_some _ e
 refine ⟨(s.heap.push { cls := .type "range",data := .fields #[.int lo t,.int hi u,.int 1 v] }).objs.size,[(s.heap.push { cls := .type "range",data := .fields #[.int lo t,.int hi u,.int 1 v] }).objs.size],_,_,H,rfl,
  I1.kept (t':=tk) fun b o e=>Heap.get?_push_of_some _ e,qgS _ lo (hi - lo).toNat,?_,fun b hb=>?_,q⟩
 ·have e1:lo + ((0:Nat):Int) * 1=lo:=by simp
  have e2:(((hi - lo).toNat:Nat):Int) - ((0:Nat):Int)=Builtin.Range.rangeSize lo hi 1:=by rw [rangeSize_one]; split <;> omega
  show IsRangeIter _ _ (lo + ((0:Nat):Int) * 1) ((((hi - lo).toNat:Nat):Int) - ((0:Nat):Int)) 1
  rw [e1,e2]
  exact Heap.get?_push_size _ rfl
 ·have e:b=(s.heap.push { cls := .type "range",data := .fields #[.int lo t,.int hi u,.int 1 v] }).objs.size:=by simpa using hb
  subst e
  exact I1.fpOk (Nat.le_refl _) (I1.hok.fresh (Nat.le_refl _))
def iRng1 (ta:TA):TI:=fun σ H R=>ta σ H fun vs H1=>∃ j:Int,vs=[.int j]/\-(2 ^ 62)≤j/\j < 2 ^ 62/\R (Itr 0 j.toNat) H1
def iRng2 (ta:TA):TI:=fun σ H R=>ta σ H fun vs H1=>∃ i j:Int,vs=[.int i,.int j]/\(-(2 ^ 62)≤i/\i < 2 ^ 62/\-(2 ^ 62)≤j/\j < 2 ^ 62)/\R (Itr i (j - i).toNat) H1
theorem qaA {a:Expr}{ta:TA}{p pos:Pos}(hg:Gl X "range")(hm:X.mg "range" = none)(ha:PA X [a] ta)(hs:starEach [a] X.env=[(false,eval a X.env)]:=by rfl):PI X tg (.Call (.Name "range" p) [a] [] pos) (iRng1 ta):=by
 intro pins s σ H R I h
 refine Call_ (qcG I hg hm boot_range (PyProof.Rows.callWith_type1 (thn (ha pos pins s σ H _ I h) fun us s1 ⟨vs,H1,I1,r1,q1⟩=>?_) hs rfl))
 obtain ⟨j,e,q1,q2,q⟩:=q1
 subst e
 cases r1 with
 | cons r rr =>
  cases rr
  obtain ⟨t,rfl⟩:=r
  exact call_range_1 (qge I1 (by omega) (by omega) q1 q2 (by simpa using q))
theorem qdd {a b:Expr}{ta:TA}{p pos:Pos}(hg:Gl X "range")(hm:X.mg "range" = none)(ha:PA X [a,b] ta)(hs:starEach [a,b] X.env=[(false,eval a X.env),(false,eval b X.env)]:=by rfl)(hs2:starEach [b] X.env=[(false,eval b X.env)]:=by rfl) :
  PI X tg (.Call (.Name "range" p) [a,b] [] pos) (iRng2 ta):=by
 intro pins s σ H R I h
 refine Call_ (qcG I hg hm boot_range (PyProof.Rows.callWith_type1 (thn (ha pos pins s σ H _ I h) fun us s1 ⟨vs,H1,I1,r1,q1⟩=>?_) (by rw [hs,hs2]) (by rw [hs2]; rfl)))
 obtain ⟨i,j,e,⟨q1,q2,q3,q4⟩,q⟩:=q1
 subst e
 cases r1 with
 | cons r rr =>
  cases rr with
  | cons r' rr =>
   cases rr
   obtain ⟨t,rfl⟩:=r
   obtain ⟨t',rfl⟩:=r'
   exact call_range_2 (qge I1 q1 q2 q3 q4 q)
def tFor (wi:TI)(g:TG)(tb:TS):TS:=fun D σ H=>wi σ H fun J H1=>∃ W:Nat->Nat->St->Hp->Prop,(∃ m,W 0 m σ H1)/\∀ i m σ H,W i m σ H ->
 (J.stop i H/\D.nx σ H)\/(J.go i H/\∃ N:St->Hp->Prop,(∀ σ' H',N σ' H'->∃ m',m' < m/\W (i + 1) m' σ' H')/\∀ x H',J.yld i H x H'->g x σ H' fun σ2 H2=>tb { D with nx:=N,ct:=N,bk:=D.nx } σ2 H2)
def qcf (fp:List Addr)(h:Heap):List (Addr × Obj):=fp.filterMap fun b=>(h.get? b).map fun o=>(b,o)
theorem qaH {fp:List Addr}{h:Heap}{b:Addr}{o:Obj}(hb:b∈fp)(e:h.get? b=some o):(b,o)∈qcf fp h:=List.mem_filterMap.mpr ⟨b,hb,by rw [e]; rfl⟩
theorem qim {fp:List Addr}{h:Heap}{p:Addr × Obj}(hp:p∈qcf fp h):p.1∈fp/\h.get? p.1=some p.2:=by
 obtain ⟨b,hb,e⟩:=List.mem_filterMap.mp hp
 cases q:h.get? b with
 | none=>rw [q] at e; cases e
 | some o =>
  rw [q] at e
  have e':(b,o)=p:=Option.some.inj e
  subst e'
  exact ⟨hb,q⟩
theorem Inv.pinned {pins:List (Addr × Obj)}{σ:St}{H:Hp}{s:Shared}{fp:List Addr}(I:Inv X pins σ H s)(hf:∀ b∈fp,FpOk X pins H b)(ho:∀ b∈fp,∃ o,s.heap.get? b=some o/\∀ v,o.data ≠ .cell v):Inv X (pins ++ qcf fp s.heap) σ H s :=
 I.pins_of fun p hp=>(List.mem_append.mp hp).elim (fun z=>I.pin p (List.mem_append_right _ z)) fun z=>by
  obtain ⟨hb,e⟩:=qim z
  obtain ⟨f0,f1,f2,_⟩:=hf p.1 hb
  obtain ⟨o,e',d⟩:=ho p.1 hb
  rw [e] at e'; cases e'
  exact ⟨e,f0,f1,f2,d⟩
theorem Inv.unpinned {pins pl:List (Addr × Obj)}{σ:St}{H:Hp}{s:Shared}(I:Inv X (pins ++ pl) σ H s):Inv X pins σ H s:=I.pins_of fun p hp=>I.pin p (List.mem_append_right _ (List.mem_append_left _ hp))
theorem qbj {iter:Expr}{body:List Stmt}{wi:TI}{g:TG}{tb:TS}{pos:Pos}(hp:PassesOwn (model X.prog X.w) X.A X.env X.xe)(hc:X.calm=true)(hi:PI X tg iter wi)(hg:PG X tg g)(hb:PSs X body tb)
  (hs:∀ x,foldedSetIterable iter X.env x=pure x:=by intro _; rfl):PS X (.For tg iter body [] pos) (tFor wi g tb):=by
 intro pins s σ H D I h
 refine wpAny_For (thn (hi pins s σ H _ I h) fun v s1 h1=>thn h1 fun itv s2 h2=>?_) hs
 obtain ⟨it,fp,tn,J,H2,e,I2,T,st2,f2,W,⟨m0,w0⟩,turn⟩:=h2
 subst e
 have stat:∀ {H':Hp},(∀ b∈fp,H' b=none)->∀ b∈fp,FpOk X pins H' b:=fun hn b hb=>⟨hn b hb,(f2 b hb).2⟩
 refine codeAny_forLoop_any (fun n s'=>∃ i σ' H',Inv X pins σ' H' s'/\tn i s'.heap/\(∀ b∈fp,H' b=none)/\W i n σ' H') ?_ m0 ⟨0,σ,H2,I2,st2,fun b hb=>(f2 b hb).1,w0⟩
 rintro n s3 ⟨i,σ3,H3,I3,st3,fr3,w3⟩
 rcases turn i n σ3 H3 w3 with ⟨stop,qn⟩ | ⟨go,N,hN,step⟩
 ·refine wpAny_passesOwn hp (thn (T.done X rfl rfl rfl hc i pins s3 σ3 H3 X.xe I3 (stat fr3) st3 stop) fun r s4 ⟨hr,I4⟩=>?_)
  subst hr
  exact wpAny_execs_nil ⟨σ3,H3,I4,qn⟩
 ·refine wpAny_passesOwn hp (thn (T.item X rfl rfl rfl hc i pins s3 σ3 H3 X.xe I3 (stat fr3) st3 go) fun r s4 ⟨u,hr,h4⟩=>?_)
  subst hr
  refine wpAny_passesOwn hp (thn h4 fun _ s5 ⟨x,H5,I5,r5,y5,st5,fr5⟩=>?_)
  have I5':=I5.pinned (stat fr5) (T.obj _ _ st5)
  refine wpAny_passesOwn hp (thn (hg _ s5 σ3 H5 x u _ I5' r5 (step x H5 y5)) fun _ s6 ⟨σ6,H6,I6,q6⟩=>?_)
  refine wpAny_passesOwn hp (thn (hb _ s6 σ6 H6 _ I6 q6) fun f s7 q7=>?_)
  have again:∀ {σ7:St} {H7:Hp},Inv X (pins ++ qcf fp s5.heap) σ7 H7 s7->N σ7 H7->∃ m,m < n/\∃ i σ' H',Inv X pins σ' H' s7/\tn i s7.heap/\(∀ b∈fp,H' b=none)/\W i m σ' H':=fun {σ7 H7} I7 n7=>by
   obtain ⟨m',hm,w7⟩:=hN σ7 H7 n7
   refine ⟨m',hm,i + 1,σ7,H7,I7.unpinned,T.keep _ _ _ st5 fun b hb o e=>(I7.pin (b,o) (List.mem_append_right _ (List.mem_append_right _ (qaH hb e)))).1,fun b hb=>?_,w7⟩
   obtain ⟨o,e,d⟩:=T.obj _ _ st5 b hb
   exact (I7.pin (b,o) (List.mem_append_right _ (List.mem_append_right _ (qaH hb e)))).2.1
  cases f with
  | next=>obtain ⟨σ7,H7,I7,n7⟩:=q7; exact again I7 n7
  | cont=>obtain ⟨σ7,H7,I7,n7⟩:=q7; exact again I7 n7
  | brk=>obtain ⟨σ7,H7,I7,q7⟩:=q7; exact ⟨σ7,H7,I7.unpinned,q7⟩
  | ret v=>obtain ⟨x7,σ7,H7,I7,r7,q7⟩:=q7; exact ⟨x7,σ7,H7,I7.unpinned,r7,q7⟩
end
theorem qcT {K:PySem.W.Frag}{a:Addr}{xs:List V}{g:TG}{tb:TS}{D:Ends}{σ:St}{H:Hp}(Pv:Nat->St->Hp->Prop)(h0:Pv 0 σ H)(hl:∀ i σ H,i≤xs.length->Pv i σ H->SqL K H a xs)
  (hs:∀ i x σ H,xs[i]?=some x->Pv i σ H->g x σ H fun σ2 H2=>tb { D with nx:=Pv (i + 1),ct:=Pv (i + 1),bk:=D.nx } σ2 H2) (hd:∀ σ H,Pv xs.length σ H->D.nx σ H) :
  ∃ W:Nat->Nat->St->Hp->Prop,(∃ m,W 0 m σ H)/\∀ i m σ H,W i m σ H ->
   ((Itl K a).stop i H/\D.nx σ H)\/((Itl K a).go i H/\∃ N:St->Hp->Prop,(∀ σ' H',N σ' H'->∃ m',m' < m/\W (i + 1) m' σ' H')/\∀ x H',(Itl K a).yld i H x H'->g x σ H' fun σ2 H2=>tb { D with nx:=N,ct:=N,bk:=D.nx } σ2 H2):=by
 refine ⟨fun i m σ H=>m=xs.length - i/\i≤xs.length/\Pv i σ H,⟨xs.length,by simp,Nat.zero_le _,h0⟩,?_⟩
 rintro i m σ H ⟨rfl,hi,p⟩
 have q:=hl i σ H hi p
 by_cases hlt:i < xs.length
 ·refine .inr ⟨⟨xs,xs[i],q,by simp [hlt]⟩,Pv (i + 1),fun σ' H' p'=>⟨xs.length - (i + 1),by omega,rfl,hlt,p'⟩,fun x H' y=>?_⟩
  obtain ⟨e,y⟩:=y
  subst e
  exact hs i x σ _ (y xs q) p
 ·have e:i=xs.length:=by omega
  subst e
  exact .inl ⟨⟨xs,q,Nat.le_refl _⟩,hd σ H p⟩
theorem qck {lo:Int}{n:Nat}{g:TG}{tb:TS}{D:Ends}{σ:St}{H:Hp}(Pv:Nat->St->Hp->Prop)(h0:Pv 0 σ H)
  (hs:∀ i σ H,i < n->Pv i σ H->g (.int (lo + i)) σ H fun σ2 H2=>tb { D with nx:=Pv (i + 1),ct:=Pv (i + 1),bk:=D.nx } σ2 H2) (hd:∀ σ H,Pv n σ H->D.nx σ H) :
  ∃ W:Nat->Nat->St->Hp->Prop,(∃ m,W 0 m σ H)/\∀ i m σ H,W i m σ H ->
   ((Itr lo n).stop i H/\D.nx σ H)\/((Itr lo n).go i H/\∃ N:St->Hp->Prop,(∀ σ' H',N σ' H'->∃ m',m' < m/\W (i + 1) m' σ' H')/\∀ x H',(Itr lo n).yld i H x H'->g x σ H' fun σ2 H2=>tb { D with nx:=N,ct:=N,bk:=D.nx } σ2 H2):=by
 refine ⟨fun i m σ H=>m=n - i/\i≤n/\Pv i σ H,⟨n,by simp,Nat.zero_le _,h0⟩,?_⟩
 rintro i m σ H ⟨rfl,hi,p⟩
 by_cases hlt:i < n
 ·refine .inr ⟨hlt,Pv (i + 1),fun σ' H' p'=>⟨n - (i + 1),by omega,rfl,hlt,p'⟩,fun x H' y=>?_⟩
  obtain ⟨e,y⟩:=y
  subst e y
  exact hs i σ _ hlt p
 ·have e:i=n:=by omega
  subst e
  exact .inl ⟨Nat.le_refl _,hd σ H p⟩
theorem qfZ {c:TT}{tb:TS}{D:Ends}{σ:St}{H:Hp}(Pv:St->Hp->Prop)(μ:St->Hp->Nat)(h0:Pv σ H)
  (hs:∀ σ H,Pv σ H->c σ H fun b H1=>if b=true then tb { D with nx:=fun σ' H'=>Pv σ' H'/\μ σ' H' < μ σ H,ct:=fun σ' H'=>Pv σ' H'/\μ σ' H' < μ σ H,bk:=D.nx } σ H1 else D.nx σ H1)
  (mono:∀ σ H Q Q',(∀ b H1,Q b H1->Q' b H1)->c σ H Q->c σ H Q'):qkD c tb D σ H:=by
 refine ⟨fun m σ H=>m=μ σ H/\Pv σ H,⟨_,rfl,h0⟩,?_⟩
 rintro m σ H ⟨rfl,p⟩
 refine mono σ H _ _ (fun b H1 q=>?_) (hs σ H p)
 cases b with
 | true=>exact ⟨_,fun σ' H' ⟨p',l⟩=>⟨_,l,rfl,p'⟩,q⟩
 | false=>exact q
abbrev R2:=V->V->Hp->VK->Prop
def OpR (X:Cx)(f:Value->Value->Sem Value)(r:R2):Prop :=
 ∀ (pins:List (Addr × Obj)) (s:Shared) (σ:St) (H:Hp) (x y:V) (v u:Value) (Q:VK),Inv X pins σ H s->RelV x v->RelV y u->r x y H Q ->
  wpAny (model X.prog X.w) X.A (f v u) (EP X pins σ Q) X.xe s
def UnR (X:Cx)(f:Value->Sem Value)(r:V->Hp->VK->Prop):Prop :=
 ∀ (pins:List (Addr × Obj)) (s:Shared) (σ:St) (H:Hp) (x:V) (v:Value) (Q:VK),Inv X pins σ H s->RelV x v->r x H Q ->
  wpAny (model X.prog X.w) X.A (f v) (EP X pins σ Q) X.xe s
def qb5 (X:Cx)(f:Value)(r:List V->Hp->VK->Prop):Prop :=
 ∀ (pins:List (Addr × Obj)) (s:Shared) (σ:St) (H:Hp) (xs:List V) (us:List Value) (Q:VK),Inv X pins σ H s->Vals xs us->r xs H Q ->
  wpAny (model X.prog X.w) X.A (call f us) (EP X pins σ Q) X.xe s
def tOp (r:R2)(ta tb:TE):TE:=fun σ H Q=>ta σ H fun x H1=>tb σ H1 fun y H2=>r x y H2 Q
def tUn (r:V->Hp->VK->Prop)(ta:TE):TE:=fun σ H Q=>ta σ H fun x H1=>r x H1 Q
def rI (C:Int->Int->Prop)(g:Int->Int->V):R2:=fun x y H Q=>∃ i j,x = .int i/\y = .int j/\C i j/\Q (g i j) H
def rI0 (g:Int->Int->V):R2:=fun x y H Q=>∃ i j,x = .int i/\y = .int j/\Q (g i j) H
def rU (g:Int->V):V->Hp->VK->Prop:=fun x H Q=>∃ i,x = .int i/\Q (g i) H
section
variable {X:Cx}{a b c:Expr}{ta tb tc:TE}{pos:Pos}
theorem binT (ha:PE X a ta)(hb:PE X b tb){pins:List (Addr × Obj)}{s:Shared}{σ:St}{H:Hp}{R:V->V->Hp->Prop}(I:Inv X pins σ H s)
  (h:ta σ H fun x H1=>tb σ H1 fun y H2=>R x y H2) {Q:Value->Shared->Prop} {f:Value->Value->Sem Value}
  (hf:∀ v u s2 x y H2,Inv X pins σ H2 s2->RelV x v->RelV y u->R x y H2->wpAny (model X.prog X.w) X.A (f v u) Q X.xe s2) :
  wpAny (model X.prog X.w) X.A (eval a X.env) (fun v s₁=>wpAny (model X.prog X.w) X.A (eval b X.env) (fun u s₂=>wpAny (model X.prog X.w) X.A (f v u) Q X.xe s₂) X.xe s₁) X.xe s:=by
 refine thn (ha pins s σ H _ I h) fun v s1 ⟨x,H1,I1,r1,q1⟩=>?_
 refine thn (hb pins s1 σ H1 _ I1 q1) fun u s2 ⟨y,H2,I2,r2,q2⟩=>?_
 exact hf v u s2 x y H2 I2 r1 r2 q2
theorem pP {op:Operator}{r:R2}(ho:OpR X (binaryOp op) r)(ha:PE X a ta)(hb:PE X b tb):PE X (.BinOp a op b pos) (tOp r ta tb):=by
 intro pins s σ H Q I h
 exact wpAny_BinOp (binT ha hb I h fun v u s2 x y H2 I2 rx ry q=>ho pins s2 σ H2 x y v u Q I2 rx ry q)
theorem qls {op:UnaryOp}{r:V->Hp->VK->Prop}(ho:UnR X (unaryOp op) r)(ha:PE X a ta):PE X (.UnaryOp op a pos) (tUn r ta):=by
 intro pins s σ H Q I h
 exact UnaryOp_ (thn (ha pins s σ H _ I h) fun v s1 ⟨x,H1,I1,r1,q1⟩=>ho pins s1 σ H1 x v Q I1 r1 q1)
theorem opI {f:Value->Value->Sem Value}{C:Int->Int->Prop}{g:Int->Int->Int}
  (rule:∀ (i j:Int) (t u:Tok) (s:Shared) (Q:Value->Shared->Prop) (E:Value->Shared->Prop),C i j->Q (.int (g i j) s.toks) { s with toks:=s.toks + 1 }->wpAny (model X.prog X.w) X.A (f (.int i t) (.int j u)) Q E s) :
  OpR X f (rI C fun i j => .int (g i j)):=by
 intro pins s σ H x y v u Q I rx ry h
 obtain ⟨i,j,rfl,rfl,hc,q⟩:=h
 obtain ⟨t,rfl⟩:=rx
 obtain ⟨t',rfl⟩:=ry
 exact rule i j t t' s _ _ hc ⟨.int (g i j),H,I.tok _,⟨_,rfl⟩,q⟩
theorem opI0 {f:Value->Value->Sem Value}{g:Int->Int->Int}
  (rule:∀ (i j:Int) (t u:Tok) (s:Shared) (Q:Value->Shared->Prop) (E:Value->Shared->Prop),Q (.int (g i j) s.toks) { s with toks:=s.toks + 1 }->wpAny (model X.prog X.w) X.A (f (.int i t) (.int j u)) Q E s) :
  OpR X f (rI0 fun i j => .int (g i j)):=by
 intro pins s σ H x y v u Q I rx ry h
 obtain ⟨i,j,rfl,rfl,q⟩:=h
 obtain ⟨t,rfl⟩:=rx
 obtain ⟨t',rfl⟩:=ry
 exact rule i j t t' s _ _ ⟨.int (g i j),H,I.tok _,⟨_,rfl⟩,q⟩
theorem opB0 {f:Value->Value->Sem Value}{g:Int->Int->Bool}
  (rule:∀ (i j:Int) (t u:Tok) (s:Shared) (Q:Value->Shared->Prop) (E:Value->Shared->Prop),Q (.bool (g i j)) s->wpAny (model X.prog X.w) X.A (f (.int i t) (.int j u)) Q E s) :
  OpR X f (rI0 fun i j => .bl (g i j)):=by
 intro pins s σ H x y v u Q I rx ry h
 obtain ⟨i,j,rfl,rfl,q⟩:=h
 obtain ⟨t,rfl⟩:=rx
 obtain ⟨t',rfl⟩:=ry
 exact rule i j t t' s _ _ ⟨.bl (g i j),H,I,rfl,q⟩
def CDiv (i j:Int):Prop:=0 < j/\j < 1073741824
def CPow (i j:Int):Prop:=0≤j/\j≤1000000/\i.natAbs < 2 ^ 64
def CMul (i j:Int):Prop:=(-(2 ^ 64) < i/\i < 2 ^ 64)\/(-(2 ^ 64) < j/\j < 2 ^ 64)
theorem CMul.ok {i j:Int}(h:CMul i j):IntMulOk i j:=by
 rcases h with ⟨h1,h2⟩ | ⟨h1,h2⟩
 ·exact .of_left (intBits_le_64 h1 h2)
 ·exact .of_right (intBits_le_64 h1 h2)
theorem qaF:OpR X (binaryOp .Add) (rI0 fun i j => .int (i + j)):=opI0 fun _ _ _ _ _ _ _ q=>add_int q
theorem qch:OpR X (binaryOp .Sub) (rI0 fun i j => .int (i - j)):=opI0 fun _ _ _ _ _ _ _ q=>sub_int q
theorem qbf:OpR X (binaryOp .Mult) (rI CMul fun i j => .int (i * j)):=opI fun _ _ _ _ _ _ _ hc q=>mul_int q hc.ok
theorem qde:OpR X (binaryOp .FloorDiv) (rI CDiv fun i j => .int (i / j)):=opI fun i j _ _ _ _ _ hc q=>by
 have h1:(0:Int) < j:=hc.1
 have h2:j < 1073741824:=hc.2
 exact floordiv_int (by omega) (by rw [Int.fdiv_eq_ediv_of_nonneg i (by omega)]; exact q) (.inl (PyProof.noPylong_small (by omega)))
theorem qbL:OpR X (binaryOp .Mod) (rI (fun _ j=>0 < j) fun i j => .int (i % j)):=opI fun i j _ _ _ _ _ hc q=>by
 have h1:(0:Int) < j:=hc
 exact mod_int' (by omega) (by rw [Int.fmod_eq_emod_of_nonneg i (by omega)]; exact q)
theorem qmI:OpR X (binaryOp .Pow) (rI CPow fun i j => .int (i ^ j.toNat)):=opI fun _ _ _ _ _ _ _ hc q=>pow_int_small hc.1 hc.2.1 hc.2.2 q
theorem unI {f:Value->Sem Value}{g:Int->Int}
  (rule:∀ (i:Int) (t:Tok) (s:Shared) (Q:Value->Shared->Prop) (E:Value->Shared->Prop),Q (.int (g i) s.toks) { s with toks:=s.toks + 1 }->wpAny (model X.prog X.w) X.A (f (.int i t)) Q E s) :
  UnR X f (rU fun i => .int (g i)):=by
 intro pins s σ H x v Q I rx h
 obtain ⟨i,rfl,q⟩:=h
 obtain ⟨t,rfl⟩:=rx
 exact rule i t s _ _ ⟨.int (g i),H,I.tok _,⟨_,rfl⟩,q⟩
theorem qht:UnR X (unaryOp .USub) (rU fun i => .int (-i)):=unI fun _ _ _ _ _ q=>neg_int q
end
def scal:V->V->Bool
 | .non,.non=>true | .non,.int _=>true | .int _,.non=>true | .non,.bl _=>true | .bl _,.non=>true | .non,.str _=>true | .str _,.non=>true
 | .int _,.int _=>true | .bl _,.bl _=>true | .str _,.str _=>true | .byt _,.byt _=>true
 | .int _,.str _=>true | .str _,.int _=>true | .bl _,.str _=>true | .str _,.bl _=>true
 | _,_=>false
def rEq:R2:=fun x y H Q=>scal x y=true/\Q (.bl (decide (x=y))) H
def rNe:R2:=fun x y H Q=>scal x y=true/\Q (.bl (!decide (x=y))) H
theorem qiX {i j:Int}:decide (V.int i=V.int j)=(i == j):=by
 rw [Bool.eq_iff_iff]
 simp
theorem qk5 {i j:Bool}:decide (V.bl i=V.bl j)=(i == j):=by
 rw [Bool.eq_iff_iff]
 simp
theorem qiW {i j:Str}:decide (V.str i=V.str j)=(i == j):=by
 rw [Bool.eq_iff_iff]
 simp
theorem qiY {i j:Array UInt8}:decide (V.byt i=V.byt j)=(i.toList == j.toList):=by
 rw [Bool.eq_iff_iff]
 cases i
 cases j
 simp
section
variable {X:Cx}{a b c:Expr}{ta tb tc:TE}{pos:Pos}
theorem qaD {pins:List (Addr × Obj)}{σ:St}{H:Hp}{s:Shared}{Q:VK}{k k':Bool}(I:Inv X pins σ H s)(q:Q (.bl k) H)(e:k=k'):EP X pins σ Q (.bool k') s:=by
 subst e
 exact ⟨.bl k,H,I,rfl,q⟩
theorem qfC:OpR X (compareOp .Eq) rEq:=by
 intro pins s σ H x y v u Q I rx ry h
 obtain ⟨hs,q⟩:=h
 cases x with
 | non =>
  cases rx
  cases y with
  | non=>cases ry; exact PySem.EqNone.eq_none_none (qaD I q (by simp))
  | bl j=>cases ry; exact PySem.EqNone.eq_none_bool (qaD I q (by simp))
  | int j=>obtain ⟨t',rfl⟩:=ry; exact PySem.EqNone.eq_none_int (qaD I q (by simp))
  | str j=>obtain ⟨t',rfl⟩:=ry; exact PySem.EqNone.eq_none_str (qaD I q (by simp))
  | _=>exact absurd (show false=true from hs) Bool.false_ne_true
 | bl i =>
  cases rx
  cases y with
  | non=>cases ry; exact PySem.EqNone.eq_bool_none (qaD I q (by simp))
  | bl j=>cases ry; exact eq_bool (qaD I q qk5)
  | str j=>obtain ⟨t',rfl⟩:=ry; exact PySem.EqMixed.eq_bool_str (qaD I q (by simp))
  | _=>exact absurd (show false=true from hs) Bool.false_ne_true
 | int i =>
  obtain ⟨t,rfl⟩:=rx
  cases y with
  | non=>cases ry; exact PySem.EqNone.eq_int_none (qaD I q (by simp))
  | int j=>obtain ⟨t',rfl⟩:=ry; exact eq_int (qaD I q qiX)
  | str j=>obtain ⟨t',rfl⟩:=ry; exact PySem.EqMixed.eq_int_str (qaD I q (by simp))
  | _=>exact absurd (show false=true from hs) Bool.false_ne_true
 | str i =>
  obtain ⟨t,rfl⟩:=rx
  cases y with
  | non=>cases ry; exact PySem.EqNone.eq_str_none (qaD I q (by simp))
  | bl j=>cases ry; exact PySem.EqMixed.eq_str_bool (qaD I q (by simp))
  | int j=>obtain ⟨t',rfl⟩:=ry; exact PySem.EqMixed.eq_str_int (qaD I q (by simp))
  | str j=>obtain ⟨t',rfl⟩:=ry; exact eq_str (qaD I q qiW)
  | _=>exact absurd (show false=true from hs) Bool.false_ne_true
 | byt i =>
  obtain ⟨t,rfl⟩:=rx
  cases y with
  | byt j=>obtain ⟨t',rfl⟩:=ry; exact PySem.W.eq_bytes (qaD I q qiY)
  | _=>exact absurd (show false=true from hs) Bool.false_ne_true
 | _=>cases y <;> exact absurd (show false=true from hs) Bool.false_ne_true
theorem qlE:OpR X (compareOp .NotEq) rNe:=by
 intro pins s σ H x y v u Q I rx ry h
 obtain ⟨hs,q⟩:=h
 cases x with
 | non =>
  cases rx
  cases y with
  | non=>cases ry; exact PySem.EqNone.ne_none_none (qaD I q (by simp))
  | bl j=>cases ry; exact PySem.EqNone.ne_none_bool (qaD I q (by simp))
  | int j=>obtain ⟨t',rfl⟩:=ry; exact PySem.EqNone.ne_none_int (qaD I q (by simp))
  | str j=>obtain ⟨t',rfl⟩:=ry; exact PySem.EqNone.ne_none_str (qaD I q (by simp))
  | _=>exact absurd (show false=true from hs) Bool.false_ne_true
 | bl i =>
  cases rx
  cases y with
  | non=>cases ry; exact PySem.EqNone.ne_bool_none (qaD I q (by simp))
  | bl j=>cases ry; exact ne_bool (qaD I q (congrArg not qk5))
  | str j=>obtain ⟨t',rfl⟩:=ry; exact PySem.EqMixed.ne_bool_str (qaD I q (by simp))
  | _=>exact absurd (show false=true from hs) Bool.false_ne_true
 | int i =>
  obtain ⟨t,rfl⟩:=rx
  cases y with
  | non=>cases ry; exact PySem.EqNone.ne_int_none (qaD I q (by simp))
  | int j=>obtain ⟨t',rfl⟩:=ry; exact ne_int (qaD I q (congrArg not qiX))
  | str j=>obtain ⟨t',rfl⟩:=ry; exact PySem.EqMixed.ne_int_str (qaD I q (by simp))
  | _=>exact absurd (show false=true from hs) Bool.false_ne_true
 | str i =>
  obtain ⟨t,rfl⟩:=rx
  cases y with
  | non=>cases ry; exact PySem.EqNone.ne_str_none (qaD I q (by simp))
  | bl j=>cases ry; exact PySem.EqMixed.ne_str_bool (qaD I q (by simp))
  | int j=>obtain ⟨t',rfl⟩:=ry; exact PySem.EqMixed.ne_str_int (qaD I q (by simp))
  | str j=>obtain ⟨t',rfl⟩:=ry; exact ne_str (qaD I q (congrArg not qiW))
  | _=>exact absurd (show false=true from hs) Bool.false_ne_true
 | byt i =>
  obtain ⟨t,rfl⟩:=rx
  cases y with
  | byt j=>obtain ⟨t',rfl⟩:=ry; exact PySem.W.ne_bytes (qaD I q (congrArg not qiY))
  | _=>exact absurd (show false=true from hs) Bool.false_ne_true
 | _=>cases y <;> exact absurd (show false=true from hs) Bool.false_ne_true
theorem op_lt:OpR X (compareOp .Lt) (rI0 fun i j => .bl (decide (i < j))):=opB0 fun _ _ _ _ _ _ _ q=>lt_int q
theorem op_le:OpR X (compareOp .LtE) (rI0 fun i j => .bl (decide (i≤j))):=opB0 fun _ _ _ _ _ _ _ q=>le_int q
theorem qfB:OpR X (compareOp .Gt) (rI0 fun i j => .bl (decide (j < i))):=opB0 fun _ _ _ _ _ _ _ q=>gt_int q
theorem qg3:OpR X (compareOp .GtE) (rI0 fun i j => .bl (decide (j≤i))):=opB0 fun _ _ _ _ _ _ _ q=>ge_int q
theorem qaO (b:Expr){op:CmpOp}(h:op ≠ .In:=by decide)(h2:op ≠ .NotIn:=by decide):behindInMarks op b=false:=by
 have e1:(op == CmpOp.In)=false:=by cases op <;> first | rfl | exact absurd rfl h
 have e2:(op == CmpOp.NotIn)=false:=by cases op <;> first | rfl | exact absurd rfl h2
 cases b <;> simp [behindInMarks,e1,e2]
theorem qct {op:CmpOp}{r:R2}(ho:OpR X (compareOp op) r)(ha:PE X a ta)(hb:PE X b tb)(hm:behindInMarks op b=false):PE X (.Compare a [op] [b] pos) (tOp r ta tb):=by
 intro pins s σ H Q I h
 exact wpAny_Compare1 (binT ha hb I h fun v u s2 x y H2 I2 rx ry q=>ho pins s2 σ H2 x y v u Q I2 rx ry q) hm
def tTest (t:TE):TT:=fun σ H Q=>t σ H fun x H'=>∃ k,x = .bl k/\Q k H'
theorem qaL {op:CmpOp}{r:R2}(ho:OpR X (compareOp op) r)(ha:PE X a ta)(hb:PE X b tb)(hm:behindInMarks op b=false):PT X (.Compare a [op] [b] pos) (tTest (tOp r ta tb)):=by
 intro pins s σ H Q I h
 refine wpAny_isTrue_Compare1 (thn (ha pins s σ H _ I h) fun v s1 ⟨x,H1,I1,r1,q1⟩=>thn (hb pins s1 σ H1 _ I1 q1) fun u s2 ⟨y,H2,I2,r2,q2⟩ =>
  thn (ho pins s2 σ H2 x y v u _ I2 r1 r2 q2) fun c s3 ⟨z,H3,I3,r3,k,e,q3⟩=>?_) hm
 subst e
 cases r3
 exact wpAny_truthy_bool ⟨H3,I3,q3⟩
theorem qeQ:(sizeLine:Nat) < 2 ^ 63:=by rw [sizeLine_eq]; decide
theorem vals1 {x:V}{us:List Value}(r:Vals [x] us):∃ u,us=[u]/\RelV x u:=by
 cases r with
 | cons r1 r2=>cases r2; exact ⟨_,rfl,r1⟩
theorem vals2 {x y:V}{us:List Value}(r:Vals [x,y] us):∃ u w',us=[u,w']/\RelV x u/\RelV y w':=by
 cases r with
 | cons r1 r2 =>
  cases r2 with
  | cons r3 r4=>cases r4; exact ⟨_,_,rfl,r1,r3⟩
theorem qbY:qb5 X (.builtin "abs") (fun xs H Q=>∃ i,xs=[.int i]/\Q (.int (if i < 0 then -i else i)) H):=by
 intro pins s σ H xs us Q I r h
 obtain ⟨i,rfl,q⟩:=h
 obtain ⟨u,rfl,t,rfl⟩:=vals1 r
 exact call_abs_int fun u tk=>⟨.int (if i < 0 then -i else i),H,I.tok _,⟨_,rfl⟩,q⟩
theorem qja (hc:X.calm=true):qb5 X (.builtin "min") (fun xs H Q=>∃ i j,xs=[.int i,.int j]/\Q (.int (if j < i then j else i)) H):=by
 intro pins s σ H xs us Q I r h
 obtain ⟨i,j,rfl,q⟩:=h
 obtain ⟨u,w',rfl,⟨t,rfl⟩,⟨t',rfl⟩⟩:=vals2 r
 refine min_two_ints (I.ok.hd hc) fun h' tk k=>⟨_,H,I.kept k,?_,q⟩
 by_cases hj:j < i
 ·rw [if_pos hj,if_pos hj]; exact ⟨_,rfl⟩
 ·rw [if_neg hj,if_neg hj]; exact ⟨_,rfl⟩
theorem qdn:qb5 X (.type "int") (fun xs H Q=>(∃ i,xs=[.int i]/\Q (.int i) H)\/∃ k,xs=[.bl k]/\Q (.int (if k then 1 else 0)) H):=by
 intro pins s σ H xs us Q I r h
 rcases h with ⟨i,rfl,q⟩ | ⟨k,rfl,q⟩
 ·obtain ⟨u,rfl,t,rfl⟩:=vals1 r
  exact call_int_int ⟨.int i,H,I,⟨_,rfl⟩,q⟩
 ·obtain ⟨u,rfl,r1⟩:=vals1 r
  cases r1
  exact call_int_bool ⟨.int (if k then 1 else 0),H,I.tok _,⟨_,rfl⟩,q⟩
end
theorem RelO.some_of {v:V}{o:Option Value}(r:RelO (some v) o):∃ u,o=some u/\RelV v u:=by
 cases o with
 | none=>exact (show False from r).elim
 | some u=>exact ⟨u,rfl,r⟩
structure Room (k:Nat)(A:Around):Prop where
 hd:A.handled=none
 dp:A.depth + 3 * k + 5 < recursionLimit
 un:A.units + 16 * k + 200 < cLine
 gd:A.guards=some []
theorem Room.mono {j k:Nat}{A:Around}(r:Room k A)(h:j≤k):Room j A:=⟨r.hd,by have:=r.dp; omega,by have:=r.un; omega,r.gd⟩
theorem Room.deeper {k:Nat}{A:Around}(r:Room (k + 1) A)(env:Env):Room k (A.deeper env) :=
 ⟨r.hd,by have:=r.dp; show A.depth + 1 + 3 * k + 5 < _; omega,by have:=r.un; show A.units + 3 + 16 * k + 200 < _; omega,r.gd⟩
theorem Room.depth {k:Nat}{A:Around}(r:Room k A):A.depth < recursionLimit:=by have:=r.dp; omega
theorem Room.units {k:Nat}{A:Around}(r:Room k A):A.units + 64 < cLine:=by have:=r.un; omega
def tNil:TA:=fun _ H Q=>Q [] H
def qlg (ta:TE)(tr:TA):TA:=fun σ H Q=>ta σ H fun x H1=>tr σ H1 fun xs H2=>Q (x :: xs) H2
section
variable {X:Cx}{e:Expr}{es:List Expr}{te:TE}{t:TA}{pos:Pos}
theorem pN:PA X [] tNil:=fun _ _ _ _ H Q I h=>Calls.spliced_nil ⟨[],H,I,.nil,h⟩
theorem qlA (ha:PE X e te)(hr:PA X es t)(hs:starEach (e :: es) X.env=(false,eval e X.env) :: starEach es X.env:=by rfl):PA X (e :: es) (qlg te t):=by
 intro pos pins s σ H Q I h
 rw [hs]
 show wpAny _ _ (spliced ((false,eval e X.env) :: backTo pos (starEach es X.env))) _ _ s
 refine Calls.spliced_cons (thn (ha pins s σ H _ I h) fun u s1 ⟨x,H1,I1,r1,q1⟩=>?_)
 exact thn (hr pos pins s1 σ H1 _ I1 q1) fun us s2 ⟨xs,H2,I2,r2,q2⟩=>⟨x :: xs,H2,I2,.cons r1 r2,q2⟩
def tTup (t:TA):TE:=fun σ H Q=>t σ H fun xs H1=>xs.length≤sizeLine/\∀ p,H1 p=none->Q (.ref p) (upd H1 p (.tup xs))
def tLst (t:TA):TE:=fun σ H Q=>t σ H fun xs H1=>xs.length≤sizeLine/\∀ p,H1 p=none->Q (.ref p) (upd H1 p (.lst xs))
theorem qaN {x1}(h:PA X es t):PE X (.Tuple es x1 pos) (tTup t):=by
 intro pins s σ H Q I hq
 refine wpAny_Tuple_spliced (thn (h pos pins s σ H _ I hq) fun us s1 ⟨xs,H1,I1,r,z,q⟩=>⟨by rw [<- r.length]; exact z,?_⟩)
 have hf:H1 s1.heap.objs.size=none:=I1.hok.fresh (Nat.le_refl _)
 refine ⟨.ref s1.heap.objs.size,upd H1 s1.heap.objs.size (.tup xs),I1.laid (t':=s1.toks) (fun b u e=>Heap.get?_push_of_some _ e) (Nat.le_refl _) ?_,rfl,q _ hf⟩
 exact ⟨z,us,r,⟨_,Heap.get?_push_size _ rfl,rfl,_,rfl,rfl⟩⟩
theorem qbb (h:PA X es t):PE X (.List es pos) (tLst t):=by
 intro pins s σ H Q I hq
 refine wpAny_List_spliced (thn (h pos pins s σ H _ I hq) fun us s1 ⟨xs,H1,I1,r,z,q⟩=>⟨by rw [<- r.length]; exact z,?_⟩)
 have hf:H1 s1.heap.objs.size=none:=I1.hok.fresh (Nat.le_refl _)
 refine ⟨.ref s1.heap.objs.size,upd H1 s1.heap.objs.size (.lst xs),I1.laid (t':=s1.toks) (fun b u e=>Heap.get?_push_of_some _ e) (Nat.le_refl _) ?_,rfl,q _ hf⟩
 exact ⟨z,us,0,r,Heap.get?_push_size _ rfl⟩
end
abbrev Sp:=List V->Hp->VK->XK->Prop
abbrev CXT:=List Env->Hp->Shared->XK->Value->Shared->Prop
structure Env0 (P:Program)(w:World)(K:PySem.W.Frag)(mg:Str->Option Value)(base:Heap)(A:Around)(outer:List Env)(s:Shared)(H:Hp):Prop where
 frames:A.frames=some outer
 mod:Mod K mg base
 bs:∀ b o,base.get? b=some o->s.heap.get? b=some o/\H b=none
 bsz:base.objs.size≤s.heap.objs.size
 funs:s.heap.FunFrames base outer
 frf:∀ b∈frs outer,H b=none
 hok:HOk P w H s.heap
 bare:AllBare s.gens
def CE (outer:List Env)(P:Program)(w:World)(H:Hp)(s:Shared)(Q:VK)(u:Value)(s':Shared):Prop :=
 ∃ v H',s'.os=s.os/\AllBare s'.gens/\Un (frs outer) [] H H' s.heap s'.heap/\HOk P w H' s'.heap/\RelV v u/\Q v H'
def CR (CX:CXT)(outer:List Env)(P:Program)(w:World)(H:Hp)(s:Shared)(Q:VK)(E:XK)(r:Result)(s':Shared):Prop :=
 match r with
 | .ok (.ret u)=>CE outer P w H s Q u s'
 | .ok _=>False
 | .error e=>CX outer H s E e s'
structure FnOk (P:Program)(w:World)(K:PySem.W.Frag)(mg:Str->Option Value)(base:Heap)(CX:CXT)(k:Nat)(f:Addr)(fd:FuncData)(ps:List Str)(sp:Sp):Prop where
 len:∀ vs H Q E,sp vs H Q E->vs.length=ps.length
 run:∀ (A:Around) (outer:List Env) (s:Shared) (H:Hp) (args:Args) (us:List Value) (vs:List V) (Q:VK) (E:XK),Room k A->Env0 P w K mg base A outer s H->BindsTo s fd args (ps.zip us)->Vals vs us->sp vs H Q E ->
  codeAny (model P w) A (.call (.ref f) args) (CR CX outer P w H s Q E) s
section
variable {X:Cx}{pins:List (Addr × Obj)}{σ:St}{H:Hp}{s s':Shared}
theorem Inv.env0 (I:Inv X pins σ H s):Env0 X.prog X.w X.K X.mg X.base X.A X.stack s H :=
 ⟨I.ok.frames,I.ok.mod,I.bs,Nat.le_trans I.ok.bsz I.sz,I.stack,I.stkFree,I.hok,I.bare⟩
theorem Inv.after {Q:VK}{u:Value}(I:Inv X pins σ H s)(h:CE X.stack X.prog X.w H s Q u s'):EP X pins σ Q u s':=by
 obtain ⟨v,H',os,bare,un,hok,r,q⟩:=h
 obtain ⟨hh,g,d,t,os'⟩:=s'
 obtain rfl:os'=s.os:=os
 exact ⟨v,H',I.call (h':=hh) (g':=g) (d':=d) (t':=t) (ch:=[]) un hok bare (fun b z=>absurd z (by simp)),r,q⟩
end
def qmu (sp:Sp)(dvs:List V)(E:XK)(t:TA):TE:=fun σ H Q=>t σ H fun vs H1=>sp (vs ++ dvs) H1 Q E
def Binds (K:PySem.W.Frag)(fd:FuncData)(ps:List Str)(ds:List Value):Prop :=
 ∀ (s:Shared) (us:List Value),K.In s.heap->(us ++ ds).length=ps.length->BindsTo s fd ⟨us,[]⟩ (ps.zip (us ++ ds))
theorem Binds.all {K:PySem.W.Frag}{fd:FuncData}{ps:List Str}(h:∀ us:List Value,us.length=ps.length->bindArgs fd ⟨us,[]⟩=pure (ps.zip us)):Binds K fd ps []:=fun s us _ hl=>by
 rw [List.append_nil] at hl ⊢
 exact .of_eq (h us hl)
def qjq (CX:CXT)(X:Cx)(E:XK):Prop:=∀ (pins:List (Addr × Obj)) (σ:St) (H:Hp) (s:Shared) (e:Value) (s':Shared),Inv X pins σ H s->CX X.stack H s E e s'->X.xe e s'
section
variable {X:Cx}{CX:CXT}{k:Nat}{f C:Addr}{fd:FuncData}{ps:List Str}{sp:Sp}{dvs:List V}{ds:List Value}{E:XK}{x m:Str}{p pos apos:Pos}{e o:Expr}{es:List Expr}{ta:TE}{t:TA}
theorem qmy {pins:List (Addr × Obj)}{σ:St}{H:Hp}{s:Shared}{Q:VK}{us:List Value}{vs:List V}(F:FnOk X.prog X.w X.K X.mg X.base CX k f fd ps sp)(hr:Room k X.A)(hb:Binds X.K fd ps ds)(hd:Vals dvs ds)(hx:qjq CX X E)
  (I:Inv X pins σ H s) (r:Vals vs us) (h:sp (vs ++ dvs) H Q E):wpAny (model X.prog X.w) X.A (call (.ref f) us) (EP X pins σ Q) X.xe s:=by
 have r2:Vals (vs ++ dvs) (us ++ ds):=r.append hd
 have hl:(us ++ ds).length=ps.length:=by rw [<- r2.length]; exact F.len _ _ _ _ h
 refine wpAny_call (codeAny_mono (F.run X.A X.stack s H ⟨us,[]⟩ (us ++ ds) (vs ++ dvs) Q E hr I.env0 (hb s us I.kIn hl) r2 h) fun r s' hq=>?_)
 cases r with
 | error e=>exact hx pins σ H s e s' I hq
 | ok fl =>
  cases fl with
  | ret u=>exact I.after hq
  | next=>exact False.elim hq
  | brk=>exact False.elim hq
  | cont=>exact False.elim hq
theorem qly (F:FnOk X.prog X.w X.K X.mg X.base CX k f fd ps sp)(hr:Room k X.A)(hg:Gl X x)(hm:X.mg x=some (.ref f))(hk:PySem.W.keepIn X.K (.ref f)=true)(hb:Binds X.K fd ps ds)(hd:Vals dvs ds)(hx:qjq CX X E)
  (ha:PA X (e :: es) t) (hdb:(x == ("__debug__" : Str))=false:=by decide) (he:starEach (e :: es) X.env=(false,eval e X.env) :: starEach es X.env:=by rfl) (hpl:(backTo pos (starEach es X.env)).any (·.1)=false:=by rfl) :
  PE X (.Call (.Name x p) (e :: es) [] pos) (qmu sp dvs E t):=by
 intro pins s σ H Q I h
 refine wpAny_Call_Name_kw (qiz I hg hm ?_ hdb)
 refine PySem.W.callWith_K (h₀:=X.base) I.ok.mod.kin hk (thn (ha pos pins s σ H _ I h) fun us s1 ⟨vs,H1,I1,r,q⟩=>⟨I1.kIn,?_⟩) he hpl
 exact qmy F hr hb hd hx I1 r q
end
structure qak (N P:List Str)(sc:Scope):Prop where
 kind:sc.kind = .function
 co:sc.isCoroutine=false
 gen:sc.isGenerator=false
 nd:N.Nodup
 pre:N.take P.length=P
 par:∀ x∈P,sc.names.lookup x=some .local\/sc.names.lookup x=some .cell
 nofree:∀ y∈sc.names,y.2 ≠ .free
theorem qe9 {kindOf:Str->Option NameKind}{x:Str}:∀ {binds:List (Str × Value)} {m:Str->Option Value},(∀ v,(x,v) ∉ binds)->bindL kindOf binds m x=m x
 | [],_,_=>rfl
 | (n,v) :: r,m,h=>by
  unfold bindL
  rw [qe9 fun w hw=>h w (List.mem_cons_of_mem _ hw)]
  split
  ·have:x≠n:=by rintro rfl; exact h v List.mem_cons_self
   simp [this]
  ·rfl
theorem qfb {kindOf:Str->Option NameKind}{x:Str}:∀ {binds:List (Str × Value)} {m:Str->Option Value},(∀ v,(x,v) ∉ binds)->bindC kindOf binds m x=m x
 | [],_,_=>rfl
 | (n,v) :: r,m,h=>by
  unfold bindC
  rw [qfb fun w hw=>h w (List.mem_cons_of_mem _ hw)]
  split
  ·rfl
  ·have:x≠n:=by rintro rfl; exact h v List.mem_cons_self
   simp [this]
theorem qfa {kindOf:Str->Option NameKind}{x:Str}{v:Value}:∀ {P:List Str} {vs:List Value} {i:Nat} {m:Str->Option Value},P.Nodup->P[i]?=some x->vs[i]?=some v->kindOf x=some .local ->
  bindL kindOf (P.zip vs) m x=some v
 | [],_,_,_,_,h,_,_=>by simp at h
 | _ :: _,[],_,_,_,_,h,_=>by simp at h
 | p :: P,w :: vs,0,m,nd,h1,h2,hk=>by
  simp at h1 h2; subst h1; subst h2
  show bindL kindOf ((p,w) :: P.zip vs) m p=_
  unfold bindL
  rw [qe9 fun v hv=>(List.nodup_cons.mp nd).1 (List.of_mem_zip hv).1,if_pos hk]
  simp
 | p :: P,w :: vs,i + 1,m,nd,h1,h2,hk=>by
  show bindL kindOf ((p,w) :: P.zip vs) m x=_
  unfold bindL
  exact qfa (i:=i) (List.nodup_cons.mp nd).2 (by simpa using h1) (by simpa using h2) hk
theorem qfc {kindOf:Str->Option NameKind}{x:Str}{v:Value}:∀ {P:List Str} {vs:List Value} {i:Nat} {m:Str->Option Value},P.Nodup->P[i]?=some x->vs[i]?=some v->kindOf x≠some .local ->
  bindC kindOf (P.zip vs) m x=some v
 | [],_,_,_,_,h,_,_=>by simp at h
 | _ :: _,[],_,_,_,_,h,_=>by simp at h
 | p :: P,w :: vs,0,m,nd,h1,h2,hk=>by
  simp at h1 h2; subst h1; subst h2
  show bindC kindOf ((p,w) :: P.zip vs) m p=_
  unfold bindC
  rw [qfb fun v hv=>(List.nodup_cons.mp nd).1 (List.of_mem_zip hv).1,if_neg hk]
  simp
 | p :: P,w :: vs,i + 1,m,nd,h1,h2,hk=>by
  show bindC kindOf ((p,w) :: P.zip vs) m x=_
  unfold bindC
  exact qfc (i:=i) (List.nodup_cons.mp nd).2 (by simpa using h1) (by simpa using h2) hk
def start (N:List Str)(vs:List V):St:=vs.map some ++ List.replicate (N.length - vs.length) none
def cxOf (CX:CXT)(P:Program)(w:World)(K:PySem.W.Frag)(mg:Str->Option Value)(base:Heap)(N:List Str)(qual:Str)(scope:Scope)(f:Addr)(cd:Value)(A:Around)(outer:List Env)(s:Shared)(H:Hp)(E:XK):Cx where
 prog:=P
 w:=w
 K:=K
 mg:=mg
 base:=base
 A:=A.deeper (envOfC qual scope s.heap.objs.size f cd)
 N:=N
 s₀:=s
 H₀:=H
 env:=envOfC qual scope s.heap.objs.size f cd
 outer:=outer
 stack:=envOfC qual scope s.heap.objs.size f cd :: outer
 ex:=[]
 calm:=true
 fn:=fun _=>true
 pn:=[]
 xe:=fun e s'=>wpAny (model P w) (A.deeper (envOfC qual scope s.heap.objs.size f cd)) (leaving (envOfC qual scope s.heap.objs.size f cd) e) (fun _ s''=>CX outer H s E e s'') (fun e' s''=>CX outer H s E e' s'') s'
theorem qgK {sc:Scope}{n:Nat}{x:Str}(h:sc.names.lookup x=some .cell):∃ c,(cellsFrom n sc.names []).lookup x=some c:=by
 have q:=PySem.W.cellsFrom_some sc.names n [] (.inl h)
 exact Option.isSome_iff_exists.mp q
theorem qiF {CX:CXT}{P:Program}{w:World}{K:PySem.W.Frag}{mg:Str->Option Value}{base:Heap}{N ps:List Str}{qual:Str}{scope:Scope}{f:Addr}{cd:Value}{A:Around}{outer:List Env}{s s1:Shared}{H:Hp}{E:XK}{us:List Value}{vs:List V}
  (S:qak N ps scope) (hd:A.handled=none) (e0:Env0 P w K mg base A outer s H) (hl:vs.length=ps.length) (r:Vals vs us)
  (x:InCallC s s.heap.objs.size (bindL (envOfC qual scope s.heap.objs.size f cd).kindOf (ps.zip us) fun _=>none) (cellsFrom (s.heap.objs.size + 1) scope.names []) (bindC (envOfC qual scope s.heap.objs.size f cd).kindOf (ps.zip us) fun _=>none) s1) :
  Inv (cxOf CX P w K mg base N qual scope f cd A outer s H E) [] (start N vs) H s1:=by
 have hpl:ps.length≤N.length:=by have:=congrArg List.length S.pre; rw [List.length_take] at this; omega
 obtain ⟨h1,tk,rfl,hk⟩:=x.done
 have noA:∀ b:Addr,b ∉ (cxOf CX P w K mg base N qual scope f cd A outer s H E).ex:=fun b z=>absurd (show b∈([]:List Addr) from z) (by simp)
 refine ⟨⟨e0.mod,S.kind,rfl,rfl,Nat.le_refl _,fun y z c h1 h2=>?_,fun y hy=>?_,fun y c _ h=>?_,fun _=>hd,Around.frames_deeper e0.frames,.inr ⟨rfl,rfl⟩,fun b z=>absurd z (noA b),e0.bs,e0.bsz,fun b _ _=>noA b,fun b z=>absurd z (noA b),e0.funs,e0.frf⟩,
  rfl,e0.bare,Un.kept hk,⟨_,x.toInCall.ns,fun i y v h1 h2 h3=>?_⟩,fun y c h=>⟨_,x.cell y c h⟩,e0.hok.fresh (Nat.le_refl _),fun y c h=>?_,fun p hp=>absurd (show p∈([]:List (Addr × Obj)) from hp) (by simp),e0.hok.kept hk,?_⟩
 ·exact name_of_addr x.apart (PySem.mem_of_lookup h1) (PySem.mem_of_lookup h2)
 ·have hy:scope.names.lookup y=some .cell\/scope.names.lookup y=some .free:=hy
  rcases hy with hy | hy
  ·exact qgK hy
  ·exact absurd rfl (S.nofree _ (PySem.mem_of_lookup hy))
 ·exact Nat.le_of_lt (x.above y c (PySem.mem_of_lookup h))
 ·have hi:i < vs.length:=by
   unfold start at h2
   by_cases hi:i < vs.length
   ·exact hi
   ·rw [List.getElem?_append_right (by simpa using hi)] at h2
    rw [List.getElem?_replicate] at h2
    split at h2 <;> cases h2
  have ha:vs[i]?=some v:=by
   unfold start at h2
   rw [List.getElem?_append_left (by simpa using hi),List.getElem?_map] at h2
   cases e:vs[i]? with
   | none=>rw [e] at h2; cases h2
   | some a=>rw [e] at h2; cases h2; rfl
  obtain ⟨u,hu,rv⟩:=r.get ha
  have hp:ps[i]?=some y:=by
   rw [<- S.pre,List.getElem?_take_of_lt (by omega)]; exact h1
  have ndP:ps.Nodup:=by rw [<- S.pre]; exact S.nd.sublist (List.take_sublist _ _)
  refine ⟨u,rv,?_⟩
  rcases S.par y (List.mem_of_getElem? hp) with k | k
  ·exact .inl ⟨k,qfa ndP hp hu k⟩
  ·obtain ⟨c,e⟩:=qgK (n:=s.heap.objs.size + 1) k
   refine .inr ⟨.inl k,c,e,?_⟩
   have q:=x.cell y c e
   rw [qfc ndP hp hu (by show scope.names.lookup y≠_; rw [k]; decide)] at q
   exact q
 ·exact e0.hok.fresh (Nat.le_of_lt (x.above y c (PySem.mem_of_lookup h)))
 ·unfold start
  show _=N.length
  rw [List.length_append,List.length_map,List.length_replicate]
  omega
theorem fn_of {CX:CXT}{P:Program}{w:World}{K:PySem.W.Frag}{mg:Str->Option Value}{base:Heap}{k:Nat}{f:Addr}{name qual:Str}{params:Arguments}{body:List Stmt}{scope:Scope}{dV kV doc pm cdv ct oc:Value}{an od:Option Addr}
  {osl:Array (Option Value)} {N ps:List Str} {sp:Sp} (lk:K.lookup f=some ⟨oc,od,.func (PySem.W.fnOf name qual params body scope dV kV doc pm an cdv ct),osl⟩) (hcd:PySem.W.codeIn K cdv qual=true) (S:qak N ps scope)
  (len:∀ vs H Q E,sp vs H Q E->vs.length=ps.length)
  (hbody:∀ (A:Around) (outer:List Env) (s:Shared) (H:Hp) (vs:List V) (Q:VK) (E:XK),Room k (A.deeper (envOfC qual scope s.heap.objs.size f cdv))->sp vs H Q E ->
    ∃ t,PSs (cxOf CX P w K mg base N qual scope f cdv A outer s H E) body t/\t { nx:=fun _ H'=>Q .non H',rt:=Q } (start N vs) H) :
  FnOk P w K mg base CX (k + 1) f (PySem.W.fnOf name qual params body scope dV kV doc pm an cdv ct) ps sp:=by
 refine ⟨len,fun A outer s H args us vs Q E hr e0 hb r hsp=>?_⟩
 have hl:=len _ _ _ _ hsp
 have KX:K.In s.heap:=e0.mod.kin.keeps fun b o e=>(e0.bs b o e).1
 have lim:s.heap.NoLimit:=e0.mod.nolimit.keeps fun b o e=>(e0.bs b o e).1
 have hkind:∀ y∈ps.zip us,scope.names.lookup y.1=some .local\/(scope.names.lookup y.1=some .cell/\((cellsFrom (s.heap.objs.size + 1) scope.names []).lookup y.1).isSome=true):=fun ⟨n,v⟩ hy=>by
  rcases S.par n (List.of_mem_zip hy).1 with q | q
  ·exact .inl q
  ·exact .inr ⟨q,PySem.W.cellsFrom_some _ _ _ (.inl q)⟩
 refine codeAny_call_function hr.depth (KX _ _ lk) rfl S.co S.gen rfl (PySem.W.codeRec_of KX hcd) (hb _ _ _ _ ?_)
 refine wpAny_newFunctionEnv_cells S.kind hkind fun env he s1 x=>?_
 subst he
 refine ⟨lim.keeps x.toInCall.keep,codeAny_func ?_⟩
 obtain ⟨t,ht,hq⟩:=hbody A outer s H vs Q E (hr.deeper _) hsp
 have I:Inv (cxOf CX P w K mg base N qual scope f cdv A outer s H E) [] (start N vs) H s1:=qiF S hr.hd e0 hl r x
 refine wpAny_mono (ht [] s1 (start N vs) H _ I hq) (fun fl s' hs=>?_) fun e s' hs=>hs
 have fin:∀ {σ':St} {H':Hp} {v:V} {u:Value},Inv (cxOf CX P w K mg base N qual scope f cdv A outer s H E) [] σ' H' s'->RelV v u->Q v H'->CE outer P w H s Q u s' :=
  fun {σ' H' v u} J rv q=>⟨v,H',J.os,J.bare,J.base,J.hok,rv,q⟩
 cases fl with
 | ret u =>
  obtain ⟨v,σ',H',J,rv,q⟩:=hs
  exact fin J rv q
 | next =>
  obtain ⟨σ',H',J,q⟩:=hs
  exact fin (v:=V.non) (u:=Value.none) J rfl q
 | brk =>
  obtain ⟨_,_,_,q⟩:=hs
  exact False.elim q
 | cont =>
  obtain ⟨_,_,_,q⟩:=hs
  exact False.elim q
section
variable {X:Cx}{x:Str}{p pos:Pos}{e:Expr}{es:List Expr}{t:TA}{id T:String}{r:List V->Hp->VK->Prop}
def tCB (r:List V->Hp->VK->Prop)(t:TA):TE:=fun σ H Q=>t σ H fun vs H1=>r vs H1 Q
theorem qag (hc:qb5 X (.builtin id) r)(hg:Gl X x)(hm:X.mg x=none)(hv:bootBuiltins x=some (.builtin id))(ha:PA X (e :: es) t)(hn:x ≠ "__name__" := by decide)(hdb:(x == ("__debug__" : Str))=false:=by decide)
  (he:starEach (e :: es) X.env=(false,eval e X.env) :: starEach es X.env:=by rfl) (hpl:(backTo pos (starEach es X.env)).any (·.1)=false:=by rfl):PE X (.Call (.Name x p) (e :: es) [] pos) (tCB r t):=by
 intro pins s σ H Q I h
 refine wpAny_Call_Name_kw (qcG I hg hm hv ?_ hn hdb)
 exact PyProof.Rows.callWith_builtin1 (thn (ha pos pins s σ H _ I h) fun us s1 ⟨vs,H1,I1,r1,q1⟩=>hc pins s1 σ H1 vs us Q I1 r1 q1) he hpl
theorem qaB (hc:qb5 X (.type T) r)(hg:Gl X x)(hm:X.mg x=none)(hv:bootBuiltins x=some (.type T))(ha:PA X (e :: es) t)(hn:x ≠ "__name__" := by decide)(hdb:(x == ("__debug__" : Str))=false:=by decide)
  (he:starEach (e :: es) X.env=(false,eval e X.env) :: starEach es X.env:=by rfl) (hpl:(backTo pos (starEach es X.env)).any (·.1)=false:=by rfl):PE X (.Call (.Name x p) (e :: es) [] pos) (tCB r t):=by
 intro pins s σ H Q I h
 refine wpAny_Call_Name_kw (qcG I hg hm hv ?_ hn hdb)
 exact PyProof.Rows.callWith_type1 (thn (ha pos pins s σ H _ I h) fun us s1 ⟨vs,H1,I1,r1,q1⟩=>hc pins s1 σ H1 vs us Q I1 r1 q1) he hpl
end
end L2
namespace HT
open PySem PyProof.Rows
section
variable {prog:Program}{w:World}{A:Around}{E:Value->Shared->Prop}{s:Shared}
theorem cat_tup {t b:Addr}{vs ws:List Value}{Q:Value->Shared->Prop}(ht:IsTup s.heap t vs.toArray)(hb:IsTup s.heap b ws.toArray)(hv:vs≠[])
  (h1:ws=[]->Q (.ref t) s) (h2:ws≠[]->Q (.ref s.heap.objs.size) { s with heap:=s.heap.push { cls := .type "tuple",data := .seq (vs ++ ws).toArray } })
  (hsz:vs.length + ws.length≤sizeLine):wpAny (model prog w) A (binaryOp .Add (.ref t) (.ref b)) Q E s:=by
 obtain ⟨⟨cls,dd,data,sl⟩,ho,hc,n,hd⟩:=id ht
 obtain ⟨⟨cls2,dd2,data2,sl2⟩,ho2,hc2,n2,hd2⟩:=id hb
 simp only at hc hd hc2 hd2
 subst hc hd hc2 hd2
 have e:vs.toArray ++ ws.toArray=(vs ++ ws).toArray:=by simp
 by_cases hw:ws=[]
 ·exact concat_meets ⟨_,ho,rfl⟩ ⟨_,ho2,rfl⟩ noFill_tuple_add seq_tuple_add PySem.F.slot_tuple_add PySem.F.entry_tuple_add (PySem.F.args_tuple_add_2 _ _)
   (tuple_addW1 t b vs.toArray ws.toArray n n2 dd dd2 sl sl2 (by simpa using hv) (by simp [hw])) ⟨ho,ho2,h1 hw⟩
 ·refine concat_meets ⟨_,ho,rfl⟩ ⟨_,ho2,rfl⟩ noFill_tuple_add seq_tuple_add PySem.F.slot_tuple_add PySem.F.entry_tuple_add (PySem.F.args_tuple_add_2 _ _)
   (tuple_addW2 t b vs.toArray ws.toArray n n2 dd dd2 sl sl2 (by simpa using hv) (by simpa using hw) (by rw [List.size_toArray,List.size_toArray]; exact hsz)) ⟨ho,ho2,?_⟩
  rw [e]
  exact h2 hw
def sIx (n d:Nat):Option Int->Nat
 | none=>d
 | some v=>if v < 0 then (v + (n:Int)).toNat else min v.toNat n
theorem sIx_none (n d:Nat):sIx n d none=d:=rfl
theorem sIx_nat (n d k:Nat):sIx n d (some (k:Int))=min k n:=by
 show (if (k:Int) < 0 then ((k:Int) + (n:Int)).toNat else min (k:Int).toNat n)=min k n
 rw [if_neg (by omega),Int.toNat_natCast]
theorem qmx (n d:Nat)(hd:d≤n)(o:Option Int):sIx n d o≤n:=by
 cases o with
 | none=>exact hd
 | some v =>
  show (if v < 0 then (v + (n:Int)).toNat else min v.toNat n)≤n
  by_cases hv:v < 0
  ·rw [if_pos hv]; omega
  ·rw [if_neg hv]; exact Nat.min_le_right _ _
theorem qi3 (v:Int)(n d:Nat):(if v < 0 then max (v + (n:Int)) 0 else min v (n:Int))=((sIx n d (some v):Nat):Int):=by
 show (if v < 0 then max (v + (n:Int)) 0 else min v (n:Int))=(((if v < 0 then (v + (n:Int)).toNat else min v.toNat n):Nat):Int)
 by_cases hv:v < 0
 ·simp only [if_pos hv]; omega
 ·simp only [if_neg hv]; omega
theorem qhj (lo hi:Option Int)(n:Nat):Builtin.Slice.sliceAdjust lo hi 1 (n:Int)=(((sIx n 0 lo:Nat):Int),((sIx n n hi:Nat):Int)):=by
 have h1:¬ ((1:Int) < 0):=by omega
 unfold Builtin.Slice.sliceAdjust
 simp only [h1,if_false]
 refine Prod.ext ?_ ?_
 ·cases lo with
  | none=>rfl
  | some v=>exact qi3 v n 0
 ·cases hi with
  | none=>rfl
  | some v=>exact qi3 v n n
theorem qg1 (i j:Nat):Builtin.Slice.slicePlaces (i:Int) (j:Int) 1=j - i:=by
 unfold Builtin.Slice.slicePlaces
 have h1:(1:Int) > 0:=by omega
 simp only [h1,if_true,Int.ediv_one]
 split <;> omega
theorem qdF {v:Value}{o:Option Int}{Q:Option Int->Shared->Prop}(p:IsPart v o)(h:Q o s):wpAny (model prog w) A (Builtin.Slice.slicePartIndex v) Q E s:=by
 cases p with
 | none=>exact slicePart_none h
 | int i t=>exact slicePart_int h
theorem qbF {sl:Addr}{vl vu:Value}{lo hi:Option Int}{n:Nat}{Q:Int × Int × Nat->Shared->Prop}(hs:s.heap.IsSliceOf sl vl vu .none)(pl:IsPart vl lo)(pu:IsPart vu hi)
  (h:Q (((sIx n 0 lo:Nat):Int),1,sIx n n hi - sIx n 0 lo) s):wpAny (model prog w) A (Builtin.Slice.sliceApplied (.ref sl) (pure (n:Int))) Q E s:=by
 obtain ⟨os,hos,hcs,hds⟩:=id hs
 unfold Builtin.Slice.sliceApplied Builtin.Slice.sliceFields
 refine wpAny_bind (wpAny_bind (wpAny_field hos hds (x:=vl) rfl (wpAny_bind (wpAny_field hos hds (x:=vu) rfl (wpAny_bind (wpAny_field hos hds (x := .none) rfl (wpAny_pure ?_)))))))
 refine wpAny_bind (slicePart_none ?_)
 show wpAny _ _ (if ((1:Int) == 0)=true then _ else _) _ _ s
 rw [if_neg (by decide)]
 refine wpAny_bind (qdF pl (wpAny_bind (qdF pu (wpAny_bind (wpAny_pure ?_)))))
 show wpAny _ _ (match Builtin.Slice.sliceAdjust lo hi 1 (n:Int) with | (lo,hi)=>pure (lo,(1:Int),Builtin.Slice.slicePlaces lo hi 1)) _ _ s
 rw [qhj lo hi n]
 show wpAny _ _ (pure (((sIx n 0 lo:Nat):Int),(1:Int),Builtin.Slice.slicePlaces ((sIx n 0 lo:Nat):Int) ((sIx n n hi:Nat):Int) 1)) _ _ s
 rw [qg1]
 exact wpAny_pure h
theorem qjK (xs:Array Value)(i k:Nat):((List.range k).filterMap fun (m:Nat)=>xs[((i:Int) + (m:Int) * 1).toNat]?).toArray=((xs.toList.drop i).take k).toArray:=by
 have e:(fun (m:Nat)=>xs[((i:Int) + (m:Int) * 1).toNat]?)=fun m=>xs[i + m]?:=by
  funext m
  have:((i:Int) + (m:Int) * 1).toNat=i + m:=by omega
  rw [this]
 rw [e]
 have:=pick_run xs i k
 rw [List.filterMap_map] at this
 have e2:((fun x=>xs[x]?) ∘ fun x=>i + x)=fun m=>xs[i + m]?:=rfl
 rw [e2] at this
 rw [this]
theorem getItem_tuple_cut {t sl:Addr}{items:Array Value}{vl vu:Value}{lo hi:Option Int}{Q:Value->Shared->Prop}(ht:IsTup s.heap t items)(hs:s.heap.IsSliceOf sl vl vu .none)(pl:IsPart vl lo)(pu:IsPart vu hi)
  (hw:¬ (sIx items.size 0 lo=0/\sIx items.size items.size hi=items.size))
  (h:Q (.ref s.heap.objs.size) { s with heap:=s.heap.push { cls := .type "tuple",data := .seq ((items.toList.drop (sIx items.size 0 lo)).take (sIx items.size items.size hi - sIx items.size 0 lo)).toArray } })
  (hsz:items.size≤sizeLine):wpAny (model prog w) A (getItem (.ref t) (.ref sl)) Q E s:=by
 have htake:sizeOk (.seq ((items.toList.drop (sIx items.size 0 lo)).take (sIx items.size items.size hi - sIx items.size 0 lo)).toArray):=by
  show ((items.toList.drop (sIx items.size 0 lo)).take (sIx items.size items.size hi - sIx items.size 0 lo)).toArray.size≤sizeLine
  rw [List.size_toArray,List.length_take,List.length_drop,Array.length_toList]
  omega
 have hj:sIx items.size items.size hi≤items.size:=qmx _ _ (Nat.le_refl _) hi
 obtain ⟨os,hos,hcs,hds⟩:=id hs
 have hTs:s.TypeIs (.ref sl) "slice" := ⟨os,hos,hcs⟩
 unfold getItem
 try with_reducible refine wpAny_holding ?_
 first | refine wpAny_bind (wpAny_pure ?_) | skip
 refine wpAny_bind (wpAny_sequenceKey ht.typeIs (by decide) ?_)
 refine wpAny_bind (wpAny_callSpecial?_slot (name:=Str.ofString "__getitem__") ht.typeIs PyProof.Rows.slot_tuple_getitem
  (wpAny_call_entry PyProof.Rows.slot_tuple_getitem ht.typeIs entry_tuple_getitem ?_ (args_tuple_getitem _ _)))
 show wpAny _ _ (Builtin.Tuple.tupleItemsOf (.ref t) >>= _) _ _ s
 refine wpAny_bind (tupleItemsOf_ ht ?_)
 refine wpAny_bind (wpAny_typeOf hTs ?_)
 rw [if_pos (by decide)]
 refine wpAny_bind (qbF hs pl pu ?_)
 have hno:¬ ((((sIx items.size 0 lo:Nat):Int) == 0 && (1:Int) == 1 && (sIx items.size items.size hi - sIx items.size 0 lo) == items.size)=true):=by
  intro q
  rw [Bool.and_eq_true,Bool.and_eq_true] at q
  have q1:((sIx items.size 0 lo:Nat):Int)=0:=eq_of_beq q.1.1
  have q2:sIx items.size items.size hi - sIx items.size 0 lo=items.size:=eq_of_beq q.2
  exact hw ⟨by omega,by omega⟩
 show wpAny _ _ (if (((sIx items.size 0 lo:Nat):Int) == 0 && (1:Int) == 1 && (sIx items.size items.size hi - sIx items.size 0 lo) == items.size)=true then _ else _) _ _ s
 rw [if_neg hno,qjK]
 first
  | exact wpAny_bind (m:=Builtin.Tuple.tupleExact _) (wpAny_newObj_type (wpAny_pure ⟨_,rfl,wpAny_pure h⟩) htake)
  | exact wpAny_bind (m:=Builtin.Tuple.tupleExact _) (wpAny_newObj_type (wpAny_bind (wpAny_pure (wpAny_pure ⟨_,rfl,wpAny_pure h⟩))) htake)
  | exact wpAny_bind (wpAny_bind (m:=Builtin.Tuple.tupleExact _) (wpAny_newObj_type (wpAny_pure (wpAny_pure ⟨_,rfl,wpAny_pure h⟩)) htake))
  | exact wpAny_bind (wpAny_bind (m:=Builtin.Tuple.tupleExact _) (wpAny_newObj_type (wpAny_pure ⟨_,rfl,wpAny_pure h⟩) htake))
end
end HT
namespace L2
open PySem PySem.Spec PyProof.Rows
abbrev TO:=St->Hp->(Option Int->Hp->Prop)->Prop
def PO (X:Cx)(e:Option Expr)(t:TO):Prop :=
 ∀ (pins:List (Addr × Obj)) (s:Shared) (σ:St) (H:Hp) (Q:Option Int->Hp->Prop),Inv X pins σ H s->t σ H Q ->
  wpAny (model X.prog X.w) X.A (evalPart e X.env) (fun u s'=>∃ o H',Inv X pins σ H' s'/\IsPart u o/\Q o H') X.xe s
def qle:TO:=fun _ H Q=>Q none H
def qmp (t:TE):TO:=fun σ H Q=>t σ H fun x H1=>∃ i,x = .int i/\Q (some i) H1
theorem intsAre_of {ns:List Int}:∀ {us:List Value},Vals (ns.map V.int) us->IntsAre us ns:=by
 induction ns with
 | nil=>intro us r; rw [List.map_nil] at r; cases r; exact .nil
 | cons n ns ih =>
  intro us r
  rw [List.map_cons] at r
  cases r with
  | cons r1 r2 =>
   obtain ⟨t,e⟩:=r1
   subst e
   exact .cons n t (ih r2)
section
variable {X:Cx}{e:Expr}{te:TE}{lo hi:Option Expr}{tl th:TO}{pos p2:Pos}
theorem qdc:PO X none qle:=by
 intro pins s σ H Q I h
 rw [evalPart_none]
 exact wpAny_pure ⟨none,H,I,.none,h⟩
theorem qcs (h:PE X e te):PO X (some e) (qmp te):=by
 intro pins s σ H Q I hw
 rw [evalPart_some]
 refine thn (h pins s σ H _ I hw) fun u s1 ⟨x,H1,I1,r1,q1⟩=>?_
 obtain ⟨i,rfl,q⟩:=q1
 obtain ⟨t,rfl⟩:=r1
 exact ⟨some i,H1,I1,.int i t,q⟩
def SlR (X:Cx)(r:V->Option Int->Option Int->Hp->VK->Prop):Prop :=
 ∀ (pins:List (Addr × Obj)) (s:Shared) (σ:St) (H:Hp) (x:V) (v vl vu:Value) (lo hi:Option Int) (sl:Addr) (Q:VK),Inv X pins σ H s->RelV x v->s.heap.IsSliceOf sl vl vu .none->IsPart vl lo->IsPart vu hi->r x lo hi H Q ->
  ∃ T id,typeLookup (.type T) "__getitem__" = pure (some (.builtin id))/\s.TypeIs v T/\wpAny (model X.prog X.w) X.A (getItem v (.ref sl)) (EP X pins σ Q) X.xe s
def tSl (r:V->Option Int->Option Int->Hp->VK->Prop)(te:TE)(tl th:TO):TE:=fun σ H Q=>te σ H fun x H1=>tl σ H1 fun l H2=>th σ H2 fun u H3=>r x l u H3 Q
theorem qcg {r:V->Option Int->Option Int->Hp->VK->Prop}(hr:SlR X r)(he:PE X e te)(hl:PO X lo tl)(hu:PO X hi th):PE X (.Subscript e (.Slice lo hi none p2) pos) (tSl r te tl th):=by
 intro pins s σ H Q I h
 refine Subscript_ (thn (he pins s σ H _ I h) fun v s1 ⟨x,H1,I1,r1,q1⟩=>?_)
 refine wpAny_Slice (thn (hl pins s1 σ H1 _ I1 q1) fun vl s2 ⟨l,H2,I2,pl,q2⟩=>thn (hu pins s2 σ H2 _ I2 q2) fun vu s3 ⟨u,H3,I3,pu,q3⟩=>?_)
 rw [evalPart_none]
 refine wpAny_pure ?_
 have I4:Inv X pins σ H3 { s3 with heap:=s3.heap.push { cls := .type "slice",data := .fields #[vl,vu,.none] } }:=I3.kept (t':=s3.toks) fun b ob q=>Heap.get?_push_of_some _ q
 obtain ⟨T,id,hT,ht,hg⟩:=hr pins { s3 with heap:=s3.heap.push { cls := .type "slice",data := .fields #[vl,vu,.none] } } σ H3 x v vl vu l u s3.heap.objs.size Q I4 r1 (Heap.IsSliceOf.new ..) pl pu q3
 show wpAny (model X.prog X.w) X.A (subscriptTail e (.Slice lo hi none p2) v (.ref s3.heap.objs.size)) (EP X pins σ Q) X.xe { s3 with heap:=s3.heap.push { cls := .type "slice",data := .fields #[vl,vu,.none] } }
 exact tail_any (ops:=[.ref s3.heap.objs.size,v]) ht hT hg (by with_unfolding_all rfl)
def cutV (xs:List V)(lo hi:Option Int):List V:=(xs.drop (HT.sIx xs.length 0 lo)).take (HT.sIx xs.length xs.length hi - HT.sIx xs.length 0 lo)
theorem qdl (xs:List V)(lo hi:Option Int):(cutV xs lo hi).length≤xs.length:=by
 unfold cutV
 rw [List.length_take,List.length_drop]
 omega
def rSlT (K:PySem.W.Frag):V->Option Int->Option Int->Hp->VK->Prop:=fun x lo hi H Q=>∃ a xs,x = .ref a/\SqT K H a xs /\
 ¬ (HT.sIx xs.length 0 lo=0/\HT.sIx xs.length xs.length hi=xs.length)/\∀ p,H p=none->Q (.ref p) (upd H p (.tup (cutV xs lo hi)))
theorem qmw:SlR X (rSlT X.K):=by
 intro pins s σ H x v vl vu lo hi sl Q I rx hs pl pu h
 obtain ⟨a,xs,rfl,hx,hw,q⟩:=h
 cases rx
 obtain ⟨its,r,ht,hz⟩:=I.tuple hx
 have hlen:its.toArray.size=xs.length:=by rw [List.size_toArray]; exact r.length.symm
 refine ⟨"tuple",_,PyProof.Rows.slot_tuple_getitem.lookup,ht.typeIs,?_⟩
 refine HT.getItem_tuple_cut ht hs pl pu (by rw [hlen]; exact hw) ?_ (by rw [hlen]; exact hz)
 rw [hlen]
 refine ⟨.ref s.heap.objs.size,_,I.laid (t':=s.toks) (o := .tup (cutV xs lo hi)) (fun b ob q=>Heap.get?_push_of_some _ q) (Nat.le_refl _) ?_,rfl,q _ (I.hok.fresh (Nat.le_refl _))⟩
 exact ⟨Nat.le_trans (qdl xs lo hi) hz,_,(r.drop (HT.sIx xs.length 0 lo)).take (HT.sIx xs.length xs.length hi - HT.sIx xs.length 0 lo),qbR.new _ _⟩
def rCatT (K:PySem.W.Frag):R2:=fun x y H Q=>∃ a b xs ys,x = .ref a/\y = .ref b/\SqT K H a xs/\SqT K H b ys/\xs≠[]/\xs.length + ys.length≤sizeLine /\
 (ys=[]->Q (.ref a) H)/\(ys≠[]->∀ p,H p=none->Q (.ref p) (upd H p (.tup (xs ++ ys))))
theorem Vals.nil_iff {xs:List V}{us:List Value}(r:Vals xs us):us=[]↔xs=[]:=by
 cases r with
 | nil=>simp
 | cons _ _=>simp
theorem qlF:OpR X (binaryOp .Add) (rCatT X.K):=by
 intro pins s σ H x y v u Q I rx ry h
 obtain ⟨a,b,xs,ys,rfl,rfl,ha,hb,hx,hz,q1,q2⟩:=h
 cases rx
 cases ry
 obtain ⟨its,r1,p1,_⟩:=I.tuple ha
 obtain ⟨its2,r2,p2,_⟩:=I.tuple hb
 refine HT.cat_tup p1 p2 (fun z=>hx (r1.nil_iff.mp z)) (fun z=>⟨.ref a,H,I,rfl,q1 (r2.nil_iff.mp z)⟩) (fun z=>?_) (by rw [<- r1.length,<- r2.length]; exact hz)
 refine ⟨.ref s.heap.objs.size,_,I.laid (t':=s.toks) (o := .tup (xs ++ ys)) (fun b ob q=>Heap.get?_push_of_some _ q) (Nat.le_refl _) ?_,rfl,q2 (fun w=>z (r2.nil_iff.mpr w)) _ (I.hok.fresh (Nat.le_refl _))⟩
 exact ⟨by rw [List.length_append]; exact hz,_,r1.append r2,qbR.new _ _⟩
end
def ixN (n:Nat)(i:Int):Option Nat:=if 0≤i then (if i < n then some i.toNat else none) else if -(n:Int)≤i then some (i + n).toNat else none
def atI {α:Type}(xs:List α)(i:Int):Option α:=(ixN xs.length i).bind fun j=>xs[j]?
theorem qiC {n:Nat}{i:Int}{j:Nat}(h:ixN n i=some j):seqIndex? i n=some j/\j < n/\-(n:Int)≤i/\i < n:=by
 unfold ixN at h
 by_cases h0:0≤i
 ·rw [if_pos h0] at h
  by_cases h1:i < n
  ·rw [if_pos h1] at h
   have e:i.toNat=j:=Option.some.inj h
   exact ⟨by rw [seqIndex_of h0 h1,e],by omega,by omega,h1⟩
  ·rw [if_neg h1] at h; cases h
 ·rw [if_neg h0] at h
  by_cases h1:-(n:Int)≤i
  ·rw [if_pos h1] at h
   have e:(i + n).toNat=j:=Option.some.inj h
   exact ⟨by rw [seqIndex_neg (by omega) h1,e],by omega,h1,by omega⟩
  ·rw [if_neg h1] at h; cases h
theorem qfV {α:Type}{xs:List α}{i:Int}{v:α}(h:atI xs i=some v):∃ j,seqIndex? i xs.length=some j/\xs[j]?=some v/\j < xs.length/\-(xs.length:Int)≤i/\i < xs.length:=by
 unfold atI at h
 cases e:ixN xs.length i with
 | none=>rw [e] at h; cases h
 | some j =>
  rw [e] at h
  obtain ⟨h1,h2,h3,h4⟩:=qiC e
  exact ⟨j,h1,h,h2,h3,h4⟩
theorem qdq {α:Type}{xs:List α}{j:Nat}{v:α}(h:xs[j]?=some v):atI xs (j:Int)=some v:=by
 have hj:j < xs.length:=(List.getElem?_eq_some_iff.mp h).1
 have e:ixN xs.length (j:Int)=some j:=by
  unfold ixN
  rw [if_pos (by omega),if_pos (by omega)]; simp
 unfold atI; rw [e]; exact h
def qmk (b:Expr):Prop:=∀ o i,subscripted b false o i=operate [o,i] (getItem o i)
def IxR (X:Cx)(r:R2):Prop :=
 ∀ (value slice:Expr) (pins:List (Addr × Obj)) (s:Shared) (σ:St) (H:Hp) (x y:V) (v u:Value) (Q:VK),Inv X pins σ H s->RelV x v->RelV y u->r x y H Q ->
  subscripted slice false v u=operate [v,u] (getItem v u)->wpAny (model X.prog X.w) X.A (subscriptTail value slice v u) (EP X pins σ Q) X.xe s
def MtR (X:Cx)(id:String)(r:V->List V->Hp->VK->Prop):Prop :=
 ∀ (pins:List (Addr × Obj)) (s:Shared) (σ:St) (H:Hp) (x:V) (xs:List V) (v:Value) (us:List Value) (Q:VK),Inv X pins σ H s->RelV x v->Vals xs us->r x xs H Q ->
  wpAny (model X.prog X.w) X.A (call (.builtin id) (v :: us)) (EP X pins σ Q) X.xe s
section
variable {X:Cx}{a b:Expr}{ta tb:TE}{pos:Pos}
theorem qax {r:R2}(hr:IxR X r)(ha:PE X a ta)(hb:PE X b tb)(hs:qmk b):PE X (.Subscript a b pos) (tOp r ta tb):=by
 intro pins s σ H Q I h
 exact Subscript_ (binT ha hb I h fun v u s2 x y H2 I2 rx ry q=>hr a b pins s2 σ H2 x y v u Q I2 rx ry q (hs _ _))
def rIxL (K:PySem.W.Frag):R2:=fun x y H Q=>∃ p xs i v,x = .ref p/\y = .int i/\SqL K H p xs/\atI xs i=some v/\Q v H
def rIxT (K:PySem.W.Frag):R2:=fun x y H Q=>∃ p xs i v,x = .ref p/\y = .int i/\SqT K H p xs/\atI xs i=some v/\Q v H
theorem qbd:IxR X (rIxL X.K):=by
 intro value slice pins s σ H x y v u Q I rx ry h hs
 obtain ⟨p,xs,i,z,rfl,rfl,hq,he,q⟩:=h
 cases rx
 obtain ⟨t,rfl⟩:=ry
 obtain ⟨its,r,pl,hz⟩:=I.list hq
 obtain ⟨j,h1,h2,h3,h4,h5⟩:=qfV he
 obtain ⟨w,ew,rw'⟩:=r.get h2
 have hl:=r.length
 have hn:=qeQ
 have fin:EP X pins σ Q w s:=⟨z,H,I,rw',q⟩
 by_cases h0:0≤i
 ·have hj:i.toNat=j:=by
   rw [seqIndex_of h0 h5] at h1
   exact Option.some.inj h1
  exact item_listR pl.isList h0 (by omega) (by rw [hj]; simpa using ew) fin hs
 ·have hj:(i + (its.toArray.size:Int)).toNat=j:=by
   rw [seqIndex_neg (by omega) h4] at h1
   rw [List.size_toArray,<- hl]
   exact Option.some.inj h1
  exact subscriptTail_builtinR (x:=w) pl.isList.typeIs slot_list_getitem.lookup
   (wpAny_getItem_list_neg (Q:=fun r s'=>r=w/\EP X pins σ Q r s') pl.isList (by omega) (by rw [List.size_toArray] <;> omega) (by omega) (by rw [hj]; simpa using ew) ⟨rfl,fin⟩) hs
theorem qbg:IxR X (rIxT X.K):=by
 intro value slice pins s σ H x y v u Q I rx ry h hs
 obtain ⟨p,xs,i,z,rfl,rfl,hq,he,q⟩:=h
 cases rx
 obtain ⟨t,rfl⟩:=ry
 obtain ⟨its,r,pl,hz⟩:=I.tuple hq
 obtain ⟨j,h1,h2,h3,h4,h5⟩:=qfV he
 obtain ⟨w,ew,rw'⟩:=r.get h2
 have hl:=r.length
 have hn:=qeQ
 have fin:EP X pins σ Q w s:=⟨z,H,I,rw',q⟩
 exact subscriptTail_builtinR (x:=w) pl.typeIs slot_tuple_getitem.lookup
  (getItem_tuple (j:=j) (Q:=fun r s'=>r=w/\EP X pins σ Q r s') pl (by omega) (by omega) (by rw [List.size_toArray,<- hl]; exact h1) (by simpa using ew) ⟨rfl,fin⟩) hs
theorem qha (its:List Value)(n j:Nat)(u:Value):Obj.mapSeq (·.setIfInBounds j u) { cls := .type "list",data := .seq its.toArray n }={ cls := .type "list",data := .seq (its.set j u).toArray n }:=by
 simp [Obj.mapSeq]
theorem Inv.lst {pins:List (Addr × Obj)}{σ:St}{H:Hp}{s:Shared}{p:Addr}{xs:List V}(I:Inv X pins σ H s)(h:H p=some (.lst xs)) :
  ∃ (its:List Value) (n:Nat),Vals xs its/\s.heap.get? p=some { cls := .type "list",data := .seq its.toArray n }/\xs.length≤sizeLine:=by
 obtain ⟨z,its,n,r,e⟩:=I.hok p _ h
 exact ⟨its,n,r,e,z⟩
theorem Inv.lstUpd {pins:List (Addr × Obj)}{σ:St}{H:Hp}{s:Shared}{p:Addr}{xs ys:List V}{its its':List Value}{n n':Nat}{f:Obj->Obj}(I:Inv X pins σ H s)(h:H p=some (.lst xs))
  (ho:s.heap.get? p=some { cls := .type "list",data := .seq its.toArray n }) (hf:f { cls := .type "list",data := .seq its.toArray n }={ cls := .type "list",data := .seq its'.toArray n' }) (r:Vals ys its') (hz:ys.length≤sizeLine) (t:Nat) :
  Inv X pins σ (upd H p (.lst ys)) { s with heap:=s.heap.update p f,toks:=t }:=by
 have e:(s.heap.update p f).get? p=some { cls := .type "list",data := .seq its'.toArray n' }:=by
  rw [Heap.get?_update_self f ho (by rw [hf] <;> rfl),hf]
 refine I.write (x:=p) (e:=p) (by rw [h]; trivial) (.inl rfl) (fun b u hb q=>(Heap.get?_update_other _ _ (Ne.symm hb)).trans q) ⟨_,e⟩ ?_
 exact ⟨hz,its',n',r,e⟩
def rSetL:V->V->V->Hp->(Hp->Prop)->Prop:=fun o i v H Q=>∃ p xs k j,o = .ref p/\i = .int k/\H p=some (.lst xs)/\ixN xs.length k=some j/\Q (upd H p (.lst (xs.set j v)))
theorem set_list:PSet X rSetL:=by
 intro pins s σ H o i v ov iv u Q I ro ri rv h
 obtain ⟨p,xs,k,j,rfl,rfl,hp,hj,q⟩:=h
 cases ro
 obtain ⟨t,rfl⟩:=ri
 obtain ⟨its,n,r,ho,hz⟩:=I.lst hp
 obtain ⟨h1,h2,h3,h4⟩:=qiC hj
 have hl:=r.length
 have hn:=qeQ
 have I':Inv X pins σ (upd H p (.lst (xs.set j v))) { s with heap:=s.heap.update p (Obj.mapSeq (·.setIfInBounds j u)) } :=
  I.lstUpd hp ho (qha its n j u) (r.set rv j) (by rw [List.length_set]; exact hz) s.toks
 by_cases h0:0≤k
 ·have hk:k.toNat=j:=by
   rw [seqIndex_of h0 h4] at h1
   exact Option.some.inj h1
  exact PySem.W.ki_setAt ho h0 (by omega) (by rw [List.size_toArray,<- hl]; exact h4) (by rw [hk]; exact ⟨_,I',q⟩)
 ·have hk:(k + (its.toArray.size:Int)).toNat=j:=by
   rw [seqIndex_neg (by omega) h3] at h1
   rw [List.size_toArray,<- hl]
   exact Option.some.inj h1
  exact PySem.W.ki_setBack ho (by omega) (by rw [List.size_toArray,<- hl]; exact h3) (by omega) (by rw [hk]; exact ⟨_,I',q⟩)
theorem qeA (lo hi:Option Int)(n:Nat):(sliceBounds lo hi none n).1=((HT.sIx n 0 lo:Nat):Int)/\(sliceBounds lo hi none n).2.1=((HT.sIx n n hi:Nat):Int)/\(sliceBounds lo hi none n).2.2=1:=by
 refine ⟨?_,?_,rfl⟩
 ·cases lo with
  | none=>simp [sliceBounds,HT.sIx]
  | some i =>
   simp only [sliceBounds,HT.sIx,Option.getD_none,show (1:Int) > 0 by decide,if_true]
   by_cases h:i < 0
   ·simp only [h,if_true] <;> omega
   ·simp only [h,if_false] <;> omega
 ·cases hi with
  | none=>simp [sliceBounds,HT.sIx]
  | some i =>
   simp only [sliceBounds,HT.sIx,Option.getD_none,show (1:Int) > 0 by decide,if_true]
   by_cases h:i < 0
   ·simp only [h,if_true] <;> omega
   ·simp only [h,if_false] <;> omega
theorem qea (its:List Value)(lo hi:Option Int):slicePick its.toArray lo hi none=((its.drop (HT.sIx its.length 0 lo)).take (HT.sIx its.length its.length hi - HT.sIx its.length 0 lo)).toArray:=by
 obtain ⟨h1,h2,h3⟩:=qeA lo hi its.toArray.size
 unfold slicePick
 rw [h1,h2,h3]
 simp only [sliceRange_one,pick_run,List.size_toArray] <;> rfl
def rSlL (K:PySem.W.Frag):V->Option Int->Option Int->Hp->VK->Prop:=fun x lo hi H Q=>∃ a xs,x = .ref a/\SqL K H a xs/\∀ p,H p=none->Q (.ref p) (upd H p (.lst (cutV xs lo hi)))
theorem qhR:SlR X (rSlL X.K):=by
 intro pins s σ H x v vl vu lo hi sl Q I rx hs pl pu h
 obtain ⟨a,xs,rfl,hx,q⟩:=h
 cases rx
 obtain ⟨its,r,ht,hz⟩:=I.list hx
 have hlen:=r.length
 refine ⟨"list",_,slot_list_getitem.lookup,ht.isList.typeIs,?_⟩
 refine wpAny_getItem_list_slice ht.isList hs pl pu .none (by simp) ?_ (by rw [List.size_toArray] <;> omega)
 rw [qea,<- hlen]
 refine ⟨.ref s.heap.objs.size,_,I.laid (t':=s.toks) (o := .lst (cutV xs lo hi)) (fun b ob q=>Heap.get?_push_of_some _ q) (Nat.le_refl _) ?_,rfl,q _ (I.hok.fresh (Nat.le_refl _))⟩
 exact ⟨Nat.le_trans (qdl xs lo hi) hz,_,0,(r.drop (HT.sIx xs.length 0 lo)).take (HT.sIx xs.length xs.length hi - HT.sIx xs.length 0 lo),Heap.get?_push_size _ rfl⟩
def qkp:V->Bool
 | .non=>true
 | .bl _=>true
 | .int _=>true
 | .str _=>true
 | _=>false
def eqV:V->V->Bool
 | .non,.non=>true
 | .bl a,.bl b=>a == b
 | .bl a,.int b=>(if a then 1 else 0) == b
 | .int a,.bl b=>a == (if b then 1 else 0)
 | .int a,.int b=>a == b
 | .str a,.str b=>a == b
 | _,_=>false
theorem qm0 {A:Around}{s:Shared}{y x:V}{u v:Value}(ry:RelV y u)(rx:RelV x v)(fy:qkp y=true)(fx:qkp x=true):SeqAt.EqAt A s u v (eqV y x):=by
 cases y with
 | non =>
  cases ry
  cases x with
  | non=>cases rx; exact SeqAt.EqAt.same _
  | bl b=>cases rx; exact SeqAt.EqAt.none_bool b
  | int b=>obtain ⟨t,rfl⟩:=rx; exact SeqAt.EqAt.none_int b t
  | str b=>obtain ⟨t,rfl⟩:=rx; exact SeqAt.EqAt.none_str b t
  | _=>exact absurd (show false=true from fx) Bool.false_ne_true
 | bl a =>
  cases ry
  cases x with
  | non=>cases rx; exact SeqAt.EqAt.bool_none a
  | bl b=>cases rx; exact SeqAt.EqAt.bool_bool a b
  | int b=>obtain ⟨t,rfl⟩:=rx; exact SeqAt.EqAt.bool_int a b t
  | str b=>obtain ⟨t,rfl⟩:=rx; exact SeqAt.EqAt.bool_str a b t
  | _=>exact absurd (show false=true from fx) Bool.false_ne_true
 | int a =>
  obtain ⟨t',rfl⟩:=ry
  cases x with
  | non=>cases rx; exact SeqAt.EqAt.int_none a t'
  | bl b=>cases rx; exact SeqAt.EqAt.int_bool a t' b
  | int b=>obtain ⟨t,rfl⟩:=rx; exact SeqAt.EqAt.int_int a t' b t
  | str b=>obtain ⟨t,rfl⟩:=rx; exact SeqAt.EqAt.int_str a t' b t
  | _=>exact absurd (show false=true from fx) Bool.false_ne_true
 | str a =>
  obtain ⟨t',rfl⟩:=ry
  cases x with
  | non=>cases rx; exact SeqAt.EqAt.str_none a t'
  | bl b=>cases rx; exact SeqAt.EqAt.str_bool a t' b
  | int b=>obtain ⟨t,rfl⟩:=rx; exact SeqAt.EqAt.str_int a t' b t
  | str b=>obtain ⟨t,rfl⟩:=rx; exact SeqAt.EqAt.str_str a t' b t
  | _=>exact absurd (show false=true from fx) Bool.false_ne_true
 | _=>exact absurd (show false=true from fy) Bool.false_ne_true
theorem qai:qb5 X (.builtin "len") (fun xs H Q=>∃ p ys,xs=[.ref p]/\(SqL X.K H p ys\/SqT X.K H p ys)/\Q (.int ys.length) H):=by
 intro pins s σ H xs us Q I r h
 obtain ⟨p,ys,rfl,hq,q⟩:=h
 obtain ⟨u,rfl,rx⟩:=vals1 r
 cases rx
 have hn:=qeQ
 rcases hq with hq | hq
 ·obtain ⟨its,r',pl,hz⟩:=I.list hq
  have hlen:=r'.length
  exact Calls.call_len_list pl.isList (by simp only [List.size_toArray] <;> omega) ⟨.int ys.length,H,I.tok _,⟨s.toks + 1,by rw [List.size_toArray,hlen]⟩,q⟩
 ·obtain ⟨its,r',pl,hz⟩:=I.tuple hq
  have hlen:=r'.length
  exact len_tuple pl (by simp only [List.size_toArray] <;> omega) ⟨.int ys.length,H,I.tok _,⟨s.toks + 1,by rw [List.size_toArray,hlen]⟩,q⟩
theorem qbc:qb5 X (.type "list") (fun xs H Q=>∃ p ys,xs=[.ref p]/\(SqL X.K H p ys\/SqT X.K H p ys)/\∀ l,H l=none->Q (.ref l) (upd H l (.lst ys))):=by
 intro pins s σ H xs us Q I r h
 obtain ⟨p,ys,rfl,hq,q⟩:=h
 obtain ⟨u,rfl,rx⟩:=vals1 r
 cases rx
 have fin:∀ (its:List Value),Vals ys its->ys.length≤sizeLine->∀ (h':Heap) (c':Nat),(∀ b o',s.heap.get? b=some o'->h'.get? b=some o') ->
   h'.get? s.heap.objs.size=some { cls := .type "list",dict:=none,data := .seq its.toArray c',slots:=#[] }->EP X pins σ Q (.ref s.heap.objs.size) { s with heap:=h' }:=fun its r' hz h' c' kp e =>
  ⟨.ref s.heap.objs.size,_,I.laid (t':=s.toks) kp (Nat.le_refl _) (show qaW X.prog X.w _ h' _ (.lst ys) from ⟨hz,its,c',r',e⟩),rfl,q _ (I.hok.fresh (Nat.le_refl _))⟩
 rcases hq with hq | hq
 ·obtain ⟨its,r',pl,hz⟩:=I.list hq
  have hlen:=r'.length
  obtain ⟨o,ho,hc,n,hd⟩:=pl.isList
  exact call_list_seq p (.inl rfl) ho hc hd (fun h' c' kp e=>fin its r' hz h' c' kp e) (by simp only [List.size_toArray] <;> omega)
 ·obtain ⟨its,r',pl,hz⟩:=I.tuple hq
  have hlen:=r'.length
  obtain ⟨o,ho,hc,n,hd⟩:=pl
  exact call_list_seq p (.inr rfl) ho hc hd (fun h' c' kp e=>fin its r' hz h' c' kp e) (by simp only [List.size_toArray] <;> omega)
theorem qaM:qb5 X (.type "tuple") (fun xs H Q=>∃ p ys,xs=[.ref p]/\((SqL X.K H p ys/\∀ l,H l=none->Q (.ref l) (upd H l (.tup ys)))\/(SqT X.K H p ys/\Q (.ref p) H))):=by
 intro pins s σ H xs us Q I r h
 obtain ⟨p,ys,rfl,h⟩:=h
 obtain ⟨u,rfl,rx⟩:=vals1 r
 cases rx
 rcases h with ⟨hq,q⟩ | ⟨hq,q⟩
 ·obtain ⟨its,r',pl,hz⟩:=I.list hq
  have hlen:=r'.length
  refine call_tuple_list pl.isList (fun h' kp=>?_) (by simp only [List.size_toArray] <;> omega)
  have I1:Inv X pins σ H { s with heap:=h' }:=I.kept (t':=s.toks) kp
  have I2:Inv X pins σ (upd H h'.objs.size (.tup ys)) { s with heap:=h'.push { cls := .type "tuple",data := .seq its.toArray } } :=
   I1.laid (t':=s.toks) (fun b o e=>Heap.get?_push_of_some _ e) (Nat.le_refl _) (show qaW X.prog X.w _ _ _ (.tup ys) from ⟨hz,its,r',qbR.new _ _⟩)
  exact ⟨.ref h'.objs.size,_,I2,rfl,q _ (I1.hok.fresh (Nat.le_refl _))⟩
 ·obtain ⟨its,r',pl,hz⟩:=I.tuple hq
  exact call_tuple_same pl ⟨.ref p,H,I,rfl,q⟩
def tyV (K:PySem.W.Frag)(T:String)(x:V)(H:Hp):Prop:=match x with
 | .str _=>T = "str"
 | .int _=>T = "int"
 | .ref p=>(T = "list" /\ ∃ xs,SqL K H p xs)\/(T = "tuple" /\ ∃ o,K.lookup p=some o/\o.cls = .type "tuple" /\ o.dict=none) \/
   (T = "dict" /\ ((∃ kvs,H p=some (.dK kvs))\/∃ kvs,H p=some (.dT kvs)))\/(T = "set" /\ ∃ S n,H p=some (.set S n))
 | _=>False
theorem qmm {pins:List (Addr × Obj)}{σ:St}{H:Hp}{s:Shared}{T:String}{x:V}{v:Value}(I:Inv X pins σ H s)(r:RelV x v)(ty:tyV X.K T x H) :
  s.TypeIs v T/\∀ a,v = .ref a->∃ ob,s.heap.get? a=some ob/\ob.dict=none:=by
 cases x with
 | str z =>
  obtain ⟨t,rfl⟩:=r
  cases (show T = "str" from ty)
  exact ⟨typeIs_str s z t,fun _ e=>nomatch e⟩
 | int i =>
  obtain ⟨t,rfl⟩:=r
  cases (show T = "int" from ty)
  exact ⟨typeIs_int s i t,fun _ e=>nomatch e⟩
 | ref p =>
  cases r
  rcases ty with ⟨rfl,xs,hq⟩ | ⟨rfl,o,hk,hc,hd⟩ | ⟨rfl,hk⟩ | ⟨rfl,S,n,hk⟩
  ·obtain ⟨its,_,pl,_⟩:=I.list hq
   refine ⟨pl.isList.typeIs,fun a e=>?_⟩
   cases e
   obtain ⟨o,n,e,c,hd,_⟩:=pl
   exact ⟨o,e,hd⟩
  ·refine ⟨⟨o,I.kIn p o hk,hc⟩,fun a e=>?_⟩
   cases e
   exact ⟨o,I.kIn _ o hk,hd⟩
  ·have z:∃ o,s.heap.get? p=some o/\o.ExactDict:=by
    rcases hk with ⟨kvs,hk⟩ | ⟨kvs,hk⟩
    ·obtain ⟨_,_,_,_,o,_,_,e,ex,_⟩:=I.hok p _ hk
     exact ⟨o,e,ex⟩
    ·obtain ⟨_,_,_,_,o,_,_,e,ex,_⟩:=I.hok p _ hk
     exact ⟨o,e,ex⟩
   obtain ⟨o,e,ex⟩:=z
   refine ⟨⟨o,e,ex.1⟩,fun a e2=>?_⟩
   cases e2
   exact ⟨o,e,ex.2.1⟩
  ·obtain ⟨o,_,_,_,e,ex,_⟩:=I.hok p _ hk
   refine ⟨⟨o,e,ex.1⟩,fun a e2=>?_⟩
   cases e2
   exact ⟨o,e,ex.2.1⟩
 | _=>exact False.elim ty
def tBM (K:PySem.W.Frag)(T:String)(r:V->List V->Hp->VK->Prop)(to:TE)(t:TA):TE:=fun σ H Q=>to σ H fun x H1=>tyV K T x H1/\t σ H1 fun xs H2=>r x xs H2 Q
variable {o e:Expr}{es:List Expr}{to:TE}{t:TA}{name:Str}{apos cpos:Pos}{T id:String}{r:V->List V->Hp->VK->Prop}
theorem qmE (pa:PlainAttrs T)(slot:Slot T name id)(hty:typeOf (.builtin id)=pure (.type "method_descriptor"))(hm:MtR X id r)(ho:PE X o to)(ha:PA X (e :: es) t)
  (hbase:attributeBase o name X.env (eval o X.env)=eval o X.env:=by rfl)
  (hfew:((backTo cpos (starEach (e :: es) X.env)).all (fun x=>!x.1) && (backToKw cpos (keywordEach [] X.env)).all (fun x=>x.1.isSome)
    && decide ((e :: es).length + ([]:List Keyword).length + (if ([]:List Keyword).isEmpty then 0 else 1) < 30))=true:=by rfl)
  (hline:(apos.endLine == cpos.line)=true:=by rfl) (hs:starEach (e :: es) X.env=(false,eval e X.env) :: starEach es X.env:=by rfl) (hplain:(backTo cpos (starEach es X.env)).any (·.1)=false:=by rfl) :
  PE X (.Call (.Attribute o name apos) (e :: es) [] cpos) (tBM X.K T r to t):=by
 intro pins s σ H Q I h
 refine wpAny_Call_method_late hbase hfew hline rfl (thn (ho pins s σ H _ I h) fun v s1 ⟨x,H1,I1,r1,ty,q1⟩=>?_)
 obtain ⟨h1,h2⟩:=qmm I1 r1 ty
 refine ⟨T,id,pa,slot,hty,h1,h2,?_⟩
 have hA:=ha cpos pins s1 σ H1 _ I1 q1
 rw [hs] at hA ⊢
 refine Calls.callWith_builtin (by show (false || (backTo cpos (starEach es X.env)).any (·.1))=false; rw [hplain] <;> rfl) (Calls.evalArgs_plain ?_)
 exact thn hA fun us s2 ⟨vs,H2,I2,r2,q2⟩=>hm pins s2 σ H2 x vs v us Q I2 r1 r2 q2
/- xs.append(e),list.index on a module's tuple .. are MtR facts of 06m -/
end
def MtM (X:Cx)(id:String)(r:V->List V->Hp->VK->Prop):Prop :=
 ∀ (pins:List (Addr × Obj)) (s:Shared) (σ:St) (H:Hp) (x:V) (xs:List V) (v:Value) (us:List Value) (Q:VK),Inv X pins σ H s->RelV x v->Vals xs us->r x xs H Q ->
  wpAny (model X.prog X.w) X.A (call (.builtin id) (v :: us)) (EP X pins σ Q) X.xe s
theorem Vals.one:∀ {x:V} {us:List Value},Vals [x] us->∃ u,us=[u]/\RelV x u
 | _,_,.cons r .nil=>⟨_,rfl,r⟩
theorem Vals.reverse {xs:List V}{us:List Value}(h:Vals xs us):Vals xs.reverse us.reverse:=by
 induction h with
 | nil=>exact .nil
 | cons r t ih=>rw [List.reverse_cons,List.reverse_cons]; exact Vals.append ih (.cons r .nil)
theorem Vals.rep {xs:List V}{us:List Value}(h:Vals xs us):∀ k:Nat,Vals (List.replicate k xs).flatten (List.replicate k us).flatten
 | 0 => .nil
 | k + 1=>by
  rw [List.replicate_succ,List.replicate_succ,List.flatten_cons,List.flatten_cons]
  exact Vals.append h (Vals.rep h k)
theorem foldl_rep (its:List Value):∀ (k:Nat) (acc:List Value),
  List.foldl (fun x1 x2=>x1 ++ x2) acc.toArray (List.replicate k its.toArray)=(acc ++ (List.replicate k its).flatten).toArray
 | 0,acc=>by simp
 | k + 1,acc=>by
  have e:acc.toArray ++ its.toArray=(acc ++ its).toArray:=by simp
  have e2:(acc ++ its) ++ (List.replicate k its).flatten=acc ++ (List.replicate (k + 1) its).flatten:=by
   rw [List.replicate_succ,List.flatten_cons,List.append_assoc]
  rw [<- e2,<- foldl_rep its k (acc ++ its),<- e,List.replicate_succ,List.foldl_cons]
section
variable {X:Cx}{pins:List (Addr × Obj)}{σ:St}{H:Hp}{s:Shared}{l b:Addr}{xs ys zs:List V}
theorem Inv.lset {its its':List Value}{n:Nat}{f:Array Value->Array Value}{t':Nat}(I:Inv X pins σ H s)(hH:H l=some (.lst xs))
  (e:s.heap.get? l=some { cls := .type "list",data := .seq its.toArray n }) (hf:f its.toArray=its'.toArray) (hv:Vals ys its') (hz:ys.length≤sizeLine) :
  Inv X pins σ (upd H l (.lst ys)) { s with heap:=s.heap.update l (Obj.mapSeq f),toks:=t' }:=by
 have q:=PySem.IsL.update e f
 rw [hf] at q
 refine I.write (x:=l) (e:=l) (by rw [hH]; exact trivial) (.inl rfl) (fun b' u hb hu=>(Heap.get?_update_other s.heap (Obj.mapSeq f) (Ne.symm hb)).trans hu) ⟨_,q⟩ ?_
 exact ⟨hz,its',_,hv,q⟩
theorem Inv.lnew {its:List Value}{t':Nat}(I:Inv X pins σ H s)(hv:Vals ys its)(hz:ys.length≤sizeLine) :
  Inv X pins σ (upd H s.heap.objs.size (.lst ys)) { s with heap:=s.heap.push { cls := .type "list",data := .seq its.toArray },toks:=t' } :=
 I.laid (fun _ _ q=>Heap.get?_push_of_some _ q) (Nat.le_refl _) ⟨hz,its,0,hv,Heap.get?_push_size _ rfl⟩
theorem Inv.fresh (I:Inv X pins σ H s):H s.heap.objs.size=none:=I.hok.fresh (Nat.le_refl _)
theorem Inv.lstM (I:Inv X pins σ H s)(hH:H l=some (.lst xs)):xs.length≤sizeLine/\∃ (its:List Value) (n:Nat),Vals xs its/\xs.length=its.length/\s.heap.get? l=some { cls := .type "list",data := .seq its.toArray n }:=by
 obtain ⟨z,its,n,r,e⟩:=I.hok l _ hH
 exact ⟨z,its,n,r,r.length,e⟩
theorem qj5 {n:Nat}(h:n≤sizeLine):Builtin.List.listTooLong n=false:=by
 unfold Builtin.List.listTooLong
 exact decide_eq_false (by omega)
end
section
variable {X:Cx}
def qll:V->List V->Hp->VK->Prop:=fun x vs H Q=>∃ l xs y,x = .ref l/\vs=[y]/\H l=some (.lst xs)/\xs.length < sizeLine/\Q .non (upd H l (.lst (xs ++ [y])))
theorem qbM:MtM X "list.append" qll:=by
 intro pins s σ H x vs v us Q I rx rv h
 obtain ⟨l,xs,y,rfl,rfl,hH,hz,q⟩:=h
 cases rx
 obtain ⟨u,rfl,ru⟩:=rv.one
 obtain ⟨z,its,n,r,hl,e⟩:=I.lstM hH
 refine call_meets F.slot_list_append ⟨_,e,rfl⟩ F.entry_list_append (F.args_list_append_2 _ _) (PySem.list_append l its.toArray n u (by rw [List.size_toArray]; omega)) ⟨e,?_⟩
 refine ⟨.non,_,I.lset (its':=its ++ [u]) hH e (by simp) (r.append (.cons ru .nil)) ?_,rfl,q⟩
 rw [List.length_append,List.length_singleton]
 omega
def rCat:R2:=fun x y H Q=>∃ l b xs zs,x = .ref l/\y = .ref b/\H l=some (.lst xs)/\H b=some (.lst zs)/\xs.length + zs.length≤sizeLine/\∀ p,H p=none->Q (.ref p) (upd H p (.lst (xs ++ zs)))
theorem qeL:OpR X (binaryOp .Add) rCat:=by
 intro pins s σ H x y v u Q I rx ry h
 obtain ⟨l,b,xs,zs,rfl,rfl,hH,hB,hz,q⟩:=h
 cases rx
 cases ry
 obtain ⟨z,its,n,r,hl,e⟩:=I.lstM hH
 obtain ⟨z2,its2,n2,r2,hl2,e2⟩:=I.lstM hB
 refine PySem.P.add_list e e2 ?_ (by rw [List.size_toArray,List.size_toArray]; omega)
 have ea:its.toArray ++ its2.toArray=(its ++ its2).toArray:=by simp
 rw [ea]
 exact ⟨.ref _,_,I.lnew (t':=s.toks) (r.append r2) (by rw [List.length_append]; omega),rfl,q _ I.fresh⟩
def rRep:R2:=fun x y H Q=>∃ l k xs,x = .ref l/\y = .int k/\H l=some (.lst xs)/\-(2 ^ 63)≤k/\k < 2 ^ 63/\xs.length * k.toNat≤sizeLine /\
 ∀ p,H p=none->Q (.ref p) (upd H p (.lst (List.replicate k.toNat xs).flatten))
theorem len_rep {α:Type}(xs:List α)(k:Nat):(List.replicate k xs).flatten.length=k * xs.length:=by
 induction k with
 | zero=>simp
 | succ k ih=>rw [List.replicate_succ,List.flatten_cons,List.length_append,ih,Nat.succ_mul,Nat.add_comm]
theorem qib:OpR X (binaryOp .Mult) rRep:=by
 intro pins s σ H x y v u Q I rx ry h
 obtain ⟨l,k,xs,rfl,rfl,hH,h1,h2,hz,q⟩:=h
 cases rx
 obtain ⟨t,rfl⟩:=ry
 obtain ⟨z,its,n,r,hl,e⟩:=I.lstM hH
 have hlen:its.toArray.size * k.toNat≤sizeLine:=by rw [List.size_toArray,<- hl]; exact hz
 have hcap:¬ its.toArray.size * k.toNat > (2 ^ 63 - 1) / 8:=by
  have:(sizeLine:Nat)≤(2 ^ 63 - 1) / 8:=by decide
  omega
 have hfit:¬ (!Builtin.List.listFitsIndex k)=true:=by
  rw [fitsIndex_both h1 h2]
  exact Bool.false_ne_true
 have hlong:¬ Builtin.List.listTooLong (its.toArray.size * k.toNat)=true:=by
  rw [qj5 hlen]
  exact Bool.false_ne_true
 have hnew:List.foldl (fun x1 x2=>x1 ++ x2) #[] (List.replicate (if its.toArray.isEmpty=true then 0 else k.toNat) its.toArray)=(List.replicate k.toNat its).flatten.toArray:=by
  have f0:∀ m:Nat,List.foldl (fun x1 x2=>x1 ++ x2) #[] (List.replicate m its.toArray)=(List.replicate m its).flatten.toArray:=fun m=>by
   have:=foldl_rep its m []
   rw [List.nil_append] at this
   exact this
  rw [f0]
  cases its with
  | nil=>simp
  | cons a r'=>rw [if_neg (by simp)]
 refine wpAny_binaryOp_repeat_ref (T := "list") (U := "int") (by decide) ⟨_,e,rfl⟩ (fun s'=>typeIs_int s' k t) noFill_list_mul F.fills_int_mul F.slot_int_rmul repeat_list F.slot_int_index.lookup
  (call_meets F.slot_int_rmul (typeIs_int s k t) F.entry_int_rmul (F.args_int_rmul_2 _ _) (int___rmul___int_list k t l its.toArray n)
    ⟨e,rfl,⟨_,e,rfl⟩,call_meets F.slot_list_mul ⟨_,e,rfl⟩ F.entry_list_mul (F.args_list_mul_2 _ _) (AutoListH.list___mul___list_int_3 l its.toArray n k t hfit hcap hlong) ⟨e,?_⟩⟩)
 rw [hnew]
 exact ⟨.ref _,_,I.lnew (t':=s.toks) (r.rep k.toNat) (by rw [len_rep,Nat.mul_comm]; exact hz),rfl,q _ I.fresh⟩
end
section
variable {κ:Type}[DecidableEq κ]
def valV (kvs:List (κ × V))(k:κ):Option V:=(kvs.find? fun kv=>decide (kv.1=k)).map (·.2)
def putK (kvs:List (κ × V))(k:κ)(v:V):List (κ × V) :=
 if (kvs.any fun kv=>decide (kv.1=k))=true then kvs.map (fun kv=>if kv.1=k then (kv.1,v) else kv) else kvs ++ [(k,v)]
theorem qb7 {p:κ × V}{r:List (κ × V)}{k:κ}(e:p.1=k):valV (p :: r) k=some p.2:=by simp [valV,List.find?_cons,e]
theorem qcL {p:κ × V}{r:List (κ × V)}{k:κ}(e:¬ p.1=k):valV (p :: r) k=valV r k:=by simp [valV,List.find?_cons,e]
theorem qf0 (k:κ):∀ kvs:List (κ × V),(kvs.any fun kv=>decide (kv.1=k))=(valV kvs k).isSome
 | []=>rfl
 | p :: r=>by
  rw [List.any_cons]
  by_cases e:p.1=k
  ·simp only [qb7 e,decide_eq_true e,Bool.true_or,Option.isSome_some]
  ·rw [qcL e,decide_eq_false e,Bool.false_or]; exact qf0 k r
theorem qbz (kvs:List (κ × V))(k:κ)(v:V):(putK kvs k v).length≤kvs.length + 1:=by
 unfold putK
 split
 ·rw [List.length_map]; omega
 ·rw [List.length_append,List.length_cons,List.length_nil]; omega
theorem RelO.isSome_eq {o:Option V}{u:Option Value}(r:RelO o u):o.isSome=u.isSome:=by
 cases o with
 | none=>cases u with
  | none=>rfl
  | some _=>exact (show False from r).elim
 | some _=>cases u with
  | none=>exact (show False from r).elim
  | some _=>rfl
theorem RelO.getD {o:Option V}{u:Option Value}{d:V}{d':Value}(r:RelO o u)(rd:RelV d d'):RelV (o.getD d) (u.getD d'):=by
 cases o with
 | none=>cases u with
  | none=>exact rd
  | some _=>exact (show False from r).elim
 | some _=>cases u with
  | none=>exact (show False from r).elim
  | some _=>exact r
theorem KV.val {kvs:List (κ × V)}{vs:List (κ × Value)}(r:KV kvs vs)(k:κ):RelO (valV kvs k) (valueAt vs k):=by
 unfold KV at r
 induction r with
 | nil=>exact True.intro
 | @cons p q ps qs h t ih =>
  obtain ⟨h1,h2⟩:=h
  by_cases e:p.1=k
  ·have e':q.1=k:=h1.symm.trans e
   have b:valueAt (q :: qs) k=some q.2:=by simp [valueAt,List.find?_cons,e']
   rw [qb7 e,b]; exact h2
  ·have e':¬ q.1=k:=fun z=>e (h1.trans z)
   have b:valueAt (q :: qs) k=valueAt qs k:=by simp [valueAt,List.find?_cons,e']
   rw [qcL e,b]; exact ih
theorem KV.any {kvs:List (κ × V)}{vs:List (κ × Value)}(r:KV kvs vs)(k:κ):(kvs.any fun kv=>decide (kv.1=k))=vs.any fun kv=>decide (kv.1=k):=by
 unfold KV at r
 induction r with
 | nil=>rfl
 | cons h t ih=>rw [List.any_cons,List.any_cons,ih,h.1]
theorem KV.repl {kvs:List (κ × V)}{vs:List (κ × Value)}(r:KV kvs vs)(k:κ){y:V}{u:Value}(ry:RelV y u) :
  KV (kvs.map fun kv=>if kv.1=k then (kv.1,y) else kv) (vs.map fun kv=>if kv.1=k then (kv.1,u) else kv):=by
 unfold KV at r ⊢
 induction r with
 | nil=>exact .nil
 | @cons p q ps qs h t ih =>
  rw [List.map_cons,List.map_cons]
  refine .cons ?_ ih
  obtain ⟨h1,h2⟩:=h
  by_cases e:p.1=k
  ·rw [if_pos e,if_pos (h1.symm.trans e)]; exact ⟨h1,ry⟩
  ·rw [if_neg e,if_neg (fun z=>e (h1.trans z))]; exact ⟨h1,h2⟩
theorem KV.put {kvs:List (κ × V)}{vs:List (κ × Value)}(r:KV kvs vs)(k:κ){y:V}{u:Value}(ry:RelV y u):KV (putK kvs k y) (stored vs k u):=by
 unfold putK stored
 rw [r.any k]
 by_cases e:(vs.any fun kv=>decide (kv.1=k))=true
 ·rw [if_pos e,if_pos e]; exact r.repl k ry
 ·rw [if_neg e,if_neg e]; exact Paired.snoc r ⟨rfl,ry⟩
theorem KV.length {kvs:List (κ × V)}{vs:List (κ × Value)}(r:KV kvs vs):kvs.length=vs.length:=Paired.length r
end
theorem qfL {P:Program}{w:World}{k:Key}{u:Value}(r:RelV (kV k) u):(qap P w).is k u=true:=by
 cases k with
 | inl i=>obtain ⟨t,e⟩:=(show ∃ t,u=Value.int i t from r); subst e; exact qfH P w i t
 | inr x=>obtain ⟨t,e⟩:=(show ∃ t,u=Value.str x t from r); subst e; exact qfG P w x t
theorem qeV {P:Program}{w:World}:∀ {ks:List Key} {us:List Value},Vals (ks.map kV) us->ItemsAre (qap P w) ks us
 | [],_,r=>by rw [List.map_nil] at r; cases r; exact .nil
 | k :: ks,_,r=>by
  rw [List.map_cons] at r
  cases r with
  | cons h t=>exact .cons (qfL h) (qeV t)
abbrev KT (H:Hp):List (List Key × V)->List (List Key × Addr × Value)->Prop:=Paired fun p q=>p.1=q.1/\H q.2.1=some (.tup (p.1.map kV))/\RelV p.2 q.2.2
theorem KT.val {H:Hp}{kvs:List (List Key × V)}{xs:List (List Key × Addr × Value)}(r:KT H kvs xs)(k:List Key):RelO (valV kvs k) ((atKey xs k).map (·.2)):=by
 induction r with
 | nil=>exact True.intro
 | @cons p q ps qs h t ih =>
  obtain ⟨h1,_,h2⟩:=h
  by_cases e:p.1=k
  ·have e':q.1=k:=h1.symm.trans e
   have b:atKey (q :: qs) k=some q.2:=by simp [atKey,List.find?_cons,e']
   rw [qb7 e,b]; exact h2
  ·have e':¬ q.1=k:=fun z=>e (h1.trans z)
   have b:atKey (q :: qs) k=atKey qs k:=by simp [atKey,List.find?_cons,e']
   rw [qcL e,b]; exact ih
theorem KT.repl {H:Hp}{kvs:List (List Key × V)}{xs:List (List Key × Addr × Value)}(r:KT H kvs xs)(k:List Key){y:V}{u:Value}(ry:RelV y u) :
  KT H (kvs.map fun kv=>if kv.1=k then (kv.1,y) else kv) (xs.map (putAt k u)):=by
 induction r with
 | nil=>exact .nil
 | @cons p q ps qs h t ih =>
  rw [List.map_cons,List.map_cons]
  refine .cons ?_ ih
  obtain ⟨h1,h2,h3⟩:=h
  unfold putAt
  by_cases e:p.1=k
  ·rw [if_pos e,if_pos (h1.symm.trans e)]; exact ⟨h1,h2,ry⟩
  ·rw [if_neg e,if_neg (fun z=>e (h1.trans z))]; exact ⟨h1,h2,h3⟩
theorem KT.put {H:Hp}{kvs:List (List Key × V)}{xs:List (List Key × Addr × Value)}(r:KT H kvs xs)(k:List Key){b:Addr}{y:V}{u:Value}(hb:H b=some (.tup (k.map kV)))(ry:RelV y u) :
  KT H (putK kvs k y) (storedH xs k b u):=by
 have e:(kvs.any fun kv=>decide (kv.1=k))=(atKey xs k).isSome:=by
  rw [qf0,(r.val k).isSome_eq,Option.isSome_map]
 unfold putK storedH
 rw [e]
 by_cases q:(atKey xs k).isSome=true
 ·rw [if_pos q,if_pos q]; exact r.repl k ry
 ·rw [if_neg q,if_neg q]; exact Paired.snoc r ⟨rfl,hb,ry⟩
theorem KT.keeps {H H':Hp}{kvs:List (List Key × V)}{xs:List (List Key × Addr × Value)}(r:KT H kvs xs)(ht:∀ b ys,H b=some (.tup ys)->H' b=some (.tup ys)):KT H' kvs xs :=
 Paired.mapP r fun _ _ z=>⟨z.1,ht _ _ z.2.1,z.2.2⟩
section
variable {P:Program}{w:World}{H:Hp}{h:Heap}{a:Addr}
theorem qlj {u:HO}(ok:HOk P w H h)(e:Rd H a u):qaW P w H h a u:=e.ok ok
theorem qiT {kvs:List (Key × V)}(ok:HOk P w H h)(e:Rd H a (.dK kvs)):kvs.length≤sizeLine/\(a == sysModules)=false/\∃ vs,KV kvs vs/\h.DictOf (qap P w) a vs :=
 show qaW P w H h a (.dK kvs) from qlj ok e
theorem qma {kvs:List (Key × V)}(ok:HOk P w H h)(e:H a=some (.dK kvs)):kvs.length≤sizeLine/\(a == sysModules)=false/\∃ vs,KV kvs vs/\h.DictOf (qap P w) a vs:=qiT ok (.inl e)
theorem qeT {ks:List Key}(ok:HOk P w H h)(e:H a=some (.tup (ks.map kV))):(tupleKind (qap P w)).is h ks a:=by
 obtain ⟨_,its,r,o,h1,h2,n,h3,_⟩:=(show qaW P w H h a (.tup (ks.map kV)) from ok a _ e)
 exact ⟨o,its.toArray,n,h1,h2,h3,by simpa using qeV r⟩
theorem qiS {kvs:List (List Key × V)}(ok:HOk P w H h)(e:Rd H a (.dT kvs)):kvs.length≤sizeLine/\(a == sysModules)=false /\
  ∃ xs,KT H kvs xs/\h.DictOfH (tupleKind (qap P w)) a xs:=by
 obtain ⟨z,y,xs,r,o,es,ep,h1,h2,h3,h4,h5⟩:=(show qaW P w H h a (.dT kvs) from qlj ok e)
 refine ⟨z,y,xs,r,o,es,ep,h1,h2,h3,h4,fun x hx=>?_,h5⟩
 have all:∀ {l:List (List Key × V)} {m:List (List Key × Addr × Value)},KT H l m->∀ x∈m,(tupleKind (qap P w)).is h x.1 x.2.1:=by
  intro l m q
  induction q with
  | nil=>intro x hx; exact nomatch hx
  | @cons p q ps qs hq t ih =>
   intro x hx
   rcases List.mem_cons.mp hx with e | hx
   ·subst e
    exact qeT ok (by rw [<- hq.1]; exact hq.2.1)
   ·exact ih x hx
 exact all r x hx
theorem qm2 {kvs:List (List Key × V)}(ok:HOk P w H h)(e:H a=some (.dT kvs)):kvs.length≤sizeLine/\(a == sysModules)=false /\
  ∃ xs,KT H kvs xs/\h.DictOfH (tupleKind (qap P w)) a xs:=qiS ok (.inl e)
end
def DGet (H:Hp)(a:Addr)(y:V)(r:Option V):Prop :=
 (∃ kvs k,Rd H a (.dK kvs)/\y=kV k/\r=valV kvs k)\/∃ kvs k b,Rd H a (.dT kvs)/\y = .ref b/\H b=some (.tup (k.map kV))/\r=valV kvs k
def DPut (H:Hp)(a:Addr)(y v:V)(H':Hp):Prop :=
 (∃ kvs k,H a=some (.dK kvs)/\y=kV k/\kvs.length < sizeLine/\H'=upd H a (.dK (putK kvs k v))) \/
 ∃ kvs k b,H a=some (.dT kvs)/\y = .ref b/\H b=some (.tup (k.map kV))/\kvs.length < sizeLine/\H'=upd H a (.dT (putK kvs k v))
theorem DGet.t {H:Hp}{a b:Addr}{kvs:List (List Key × V)}{k:List Key}(e:H a=some (.dT kvs))(eb:H b=some (.tup (k.map kV))):DGet H a (.ref b) (valV kvs k) := .inr ⟨kvs,k,b,.inl e,rfl,eb,rfl⟩
theorem DPut.t {H:Hp}{a b:Addr}{kvs:List (List Key × V)}{k:List Key}{v:V}(e:H a=some (.dT kvs))(eb:H b=some (.tup (k.map kV)))(hl:kvs.length < sizeLine) :
  DPut H a (.ref b) v (upd H a (.dT (putK kvs k v))) := .inr ⟨kvs,k,b,e,rfl,eb,hl,rfl⟩
section
variable {X:Cx}{pins:List (Addr × Obj)}{σ:St}{H:Hp}{s:Shared}{a:Addr}{y v:V}{u r:Value}{o:Option V}{A:Around}{E:Value->Shared->Prop}
theorem Inv.big (I:Inv X pins σ H s):sysModules < s.heap.objs.size:=by
 have h:mainGlobals < s.heap.objs.size:=(I.mod.glob.keeps I.bk).lt
 exact Nat.lt_trans (by decide) h
theorem qi0 {Q:Value->Shared->Prop}(hu:A.units + 1 < cLine)(I:Inv X pins σ H s)(g:DGet H a y (some v))(ry:RelV y u)(h:∀ w' s',Inv X pins σ H s'->RelV v w'->Q w' s') :
  wpAny (model X.prog X.w) A (getItem (.ref a) u) Q E s:=by
 rcases g with ⟨kvs,k,e,ey,l⟩ | ⟨kvs,k,b,e,ey,eb,l⟩
 ·subst ey
  obtain ⟨z,hd,vs,rel,dd⟩:=qiT I.hok e
  obtain ⟨w',hw,rw'⟩:=RelO.some_of (v:=v) (o:=valueAt vs k) (by rw [l]; exact rel.val k)
  exact wpAny_getItem_of (qfL ry) dd.mapOf hw (h w' _ (I.tok _) rw')
 ·subst ey
  cases (show u=Value.ref b from ry)
  obtain ⟨z,hd,xs,rel,dd⟩:=qiS I.hok e
  obtain ⟨w',hw,rw'⟩:=RelO.some_of (v:=v) (o:=(atKey xs k).map (·.2)) (by rw [l]; exact rel.val k)
  obtain ⟨p,hp,hp2⟩:=Option.map_eq_some_iff.mp hw
  refine wpAny_getItem_heap (tupleKind_room_in1 hu) (qeT I.hok eb) dd hp ?_
  rw [hp2]
  exact h w' _ (I.tok _) rw'
theorem qb3 {h':Heap}{t':Nat}{ob:HO}(I:Inv X pins σ H s)(mu:Mut (H a))(hs:Heap.SameBut a s.heap h')(he:∃ q,h'.get? a=some q)(new:qaW X.prog X.w (upd H a ob) h' a ob) :
  Inv X pins σ (upd H a ob) { s with heap:=h',toks:=t' } :=
 I.write (x:=a) (e:=a) mu (.inl rfl) (fun b q hb z=>(hs.2 b hb).trans z) he new
theorem qiU {P:Program}{w:World}{H':Hp}{h':Heap}{kvs:List (Key × V)}{vs:List (Key × Value)}(z:kvs.length≤sizeLine)(hd:(a == sysModules)=false)(rel:KV kvs vs)(dd:h'.DictOf (qap P w) a vs) :
  qaW P w H' h' a (.dK kvs):=⟨z,hd,vs,rel,dd⟩
theorem qiZ {H':Hp}{Q:Unit->Shared->Prop}(hu:A.units + 1 < cLine)(I:Inv X pins σ H s)(g:DPut H a y v H')(ry:RelV y u)(rv:RelV v r)(h:∀ s',Inv X pins σ H' s'->Q () s') :
  wpAny (model X.prog X.w) A (setItem (.ref a) u r) Q E s:=by
 rcases g with ⟨kvs,k,e,ey,l,eH⟩ | ⟨kvs,k,b,e,ey,eb,l,eH⟩
 ·subst ey eH
  obtain ⟨z,hd,vs,rel,dd⟩:=qma I.hok e
  have hz:vs.length≤sizeLine:=by rw [<- rel.length]; exact z
  have hl:(putK kvs k v).length≤sizeLine:=by have:=qbz kvs k v; omega
  refine wpAny_setItem_pairs (hsz:=hz) (qfL ry) dd fun h' dd' hs=>h _ ?_
  have he:∃ q,h'.get? a=some q:=let ⟨q,_,_,hq,_⟩:=dd'; ⟨q,hq⟩
  exact qb3 I (by rw [e]; exact True.intro) hs he (qiU hl hd (rel.put k rv) dd')
 ·subst ey eH
  cases (show u=Value.ref b from ry)
  obtain ⟨z,hd,xs,rel,dd⟩:=qm2 I.hok e
  have hz:xs.length≤sizeLine:=by rw [<- Paired.length rel]; exact z
  have hl:(putK kvs k v).length≤sizeLine:=by have:=qbz kvs k v; omega
  refine wpAny_setItem_heap (hsz:=hz) (tupleKind_room_in1 hu) (qeT I.hok eb) dd fun h' dd' hs=>h _ ?_
  obtain ⟨q,es,ep,hq,h2,h3,h4,_,h5⟩:=dd'
  refine qb3 I (by rw [e]; exact True.intro) hs ⟨q,hq⟩ ⟨hl,hd,_,(rel.put k eb rv).keeps fun c ys ec=>?_,q,es,ep,hq,h2,h3,h4,h5⟩
  rw [uE (qdt ec e (fun z=>nomatch z))]
  exact ec
end
def NoSl (i:Expr):Prop:=∀ ov iv,subscripted i false ov iv=operate [ov,iv] (getItem ov iv)
theorem qlh {prog:Program}{w:World}{A:Around}{E:Value->Shared->Prop}{s:Shared}{env:Env}{value slice:Expr}{pos:Pos}{T id:String}{Q:Value->Shared->Prop}
  (hl:typeLookup (.type T) "__getitem__" = pure (some (.builtin id))) (hs:NoSl slice)
  (h:wpAny (model prog w) A (eval value env) (fun o s₁=>wpAny (model prog w) A (eval slice env) (fun i s₂=>s₂.TypeIs o T/\wpAny (model prog w) A (getItem o i) Q E s₂) E s₁) E s) :
  wpAny (model prog w) A (eval (.Subscript value slice pos) env) Q E s:=by
 refine Subscript_ (wpAny_mono h (fun o s₁ h₁=>wpAny_mono h₁ (fun i s₂ h₂=>?_) fun _ _ x=>x) fun _ _ x=>x)
 obtain ⟨hT,h₂⟩:=h₂
 unfold subscriptTail
 refine wpAny_bind ?_
 rw [getitemInPython_of_ne hT.not_modules]
 refine wpAny_bind (wpAny_specialOf hT hl ?_)
 have fin:wpAny (model prog w) A (subscripted slice false o i) (fun r s₃=>wpAny (model prog w) A (letTemporaryGo value o r >>= fun _=>pure r) Q E s₃) E s₂:=by
  rw [hs o i]
  exact wpAny_operating (wpAny_mono h₂ (fun r s₃ h₃=>wpAny_bind (wpAny_letTemporaryGo (wpAny_pure h₃))) fun _ _ x=>x)
 first
  | exact wpAny_pure (wpAny_bind fin)
  | exact wpAny_bind (wpAny_pure (wpAny_bind fin))
  | exact wpAny_bind fin
theorem qfS {X:Cx}{pins:List (Addr × Obj)}{σ:St}{H:Hp}{s:Shared}{a:Addr}{y:V}{o:Option V}(I:Inv X pins σ H s)(g:DGet H a y o):s.TypeIs (.ref a) "dict" := by
 rcases g with ⟨kvs,k,e,_,_⟩ | ⟨kvs,k,b,e,_,_,_⟩
 ·obtain ⟨_,_,vs,_,dd⟩:=qiT I.hok e
  exact dd.typeIs
 ·obtain ⟨_,_,xs,_,dd⟩:=qiS I.hok e
  exact dd.typeIs
def tDGet (td ty:TE):TE:=fun σ H Q=>td σ H fun x H1=>ty σ H1 fun y H2=>∃ a v,x = .ref a/\DGet H2 a y (some v)/\Q v H2
def sDPut (td ty tv:TE):TS:=fun D σ H=>tv σ H fun v H1=>td σ H1 fun x H2=>ty σ H2 fun y H3=>∃ a H4,x = .ref a/\DPut H3 a y v H4/\D.nx σ H4
section
variable {X:Cx}{o i e value:Expr}{pos pos' tpos:Pos}{td ty tv:TE}
theorem qlx (hu:X.A.units + 1 < cLine)(ho:PE X o td)(hi:PE X i ty)(hs:NoSl i):PE X (.Subscript o i pos) (tDGet td ty):=by
 intro pins s σ H Q I h
 refine qlh PySem.F.slot_dict_getitem.lookup hs (thn (ho pins s σ H _ I h) fun u s1 ⟨x,H1,I1,rx,q1⟩=>thn (hi pins s1 σ H1 _ I1 q1) fun iv s2 ⟨y,H2,I2,ry,a,v,ex,g,q2⟩=>?_)
 subst ex
 obtain rfl:u=Value.ref a:=rx
 exact ⟨qfS I2 g,qi0 hu I2 g ry fun w' s3 I3 rw'=>⟨v,H2,I3,rw',q2⟩⟩
theorem qlo (hu:X.A.units + 1 < cLine)(ho:PE X o td)(hi:PE X i ty)(hv:PE X value tv)(hs:swapsWith value (some (.Subscript o i pos')) pos.line X.env=pure false) :
  PS X (.Assign [.Subscript o i pos'] value pos) (sDPut td ty tv):=by
 intro pins s σ H D I h
 refine wpAny_Assign_Subscript (thn (hv pins s σ H _ I h) fun r s1 ⟨v,H1,I1,rv,q1⟩=>thn (ho pins s1 σ H1 _ I1 q1) fun u s2 ⟨x,H2,I2,rx,q2⟩=>thn (hi pins s2 σ H2 _ I2 q2) fun iv s3 ⟨y,H3,I3,ry,a,H4,ex,g,q3⟩=>?_) hs
 subst ex
 obtain rfl:u=Value.ref a:=rx
 exact qiZ hu I3 g ry rv fun s4 I4=>⟨σ,H4,I4,q3⟩
end
theorem qgI {P:Program}{w:World}{H:Hp}(h:Heap)(hb:sysModules < h.objs.size):qaW P w H (h.push { cls := .type "dict",data := .dict #[] }) h.objs.size (.dK []) :=
 ⟨Nat.zero_le _,beq_eq_false_iff_ne.mpr (Ne.symm (Nat.ne_of_lt hb)),[],.nil,Heap.DictOf.new h⟩
theorem qgH {P:Program}{w:World}{H:Hp}(h:Heap)(hb:sysModules < h.objs.size):qaW P w H (h.push { cls := .type "dict",data := .dict #[] }) h.objs.size (.dT []) :=
 ⟨Nat.zero_le _,beq_eq_false_iff_ne.mpr (Ne.symm (Nat.ne_of_lt hb)),[],.nil,_,#[],0,Heap.get?_push_size _ rfl,⟨rfl,rfl,rfl⟩,rfl,rfl,List.nodup_nil⟩
def qms:TE:=fun _ H Q=>∀ p,H p=none->Q (.ref p) (upd H p (.dT []))
section
variable {X:Cx}{pos:Pos}
theorem qjP:PE X (.Dict [] [] pos) qms:=fun pins s σ H Q I h =>
 wpAny_Dict_empty ⟨.ref s.heap.objs.size,_,I.laid (a:=s.heap.objs.size) (o := .dT []) (t':=s.toks) (fun _ _ q=>Heap.get?_push_of_some _ q) (Nat.le_refl _) (qgH s.heap I.big),rfl,h _ (I.hok.fresh (Nat.le_refl _))⟩
end
def qhB:List (TE × TE)->St->Hp->(List (V × V)->Hp->Prop)->Prop
 | [],_,H,Q=>Q [] H
 | (tk,tv) :: r,σ,H,Q=>tk σ H fun x H1=>tv σ H1 fun y H2=>qhB r σ H2 fun ps H3=>Q ((x,y) :: ps) H3
abbrev VV:List (V × V)->List (Value × Value)->Prop:=Paired fun p q=>RelV p.1 q.1/\RelV p.2 q.2
def PPs (X:Cx)(pos:Pos)(keys:List (Option Expr))(values:List Expr)(trs:List (TE × TE)):Prop :=
 ∀ (pins:List (Addr × Obj)) (s:Shared) (σ:St) (H:Hp) (Q:List (V × V)->Hp->Prop),Inv X pins σ H s->qhB trs σ H Q ->
  wpAny (model X.prog X.w) X.A (evalPairs (pairTrees keys values X.env pos)) (fun vs s'=>∃ ps H',Inv X pins σ H' s'/\VV ps vs/\Q ps H') X.xe s
theorem qlq {X:Cx}{pos:Pos}:PPs X pos [] [] []:=fun pins s σ H Q I h=>pairTrees_nil_walk ⟨[],H,I,.nil,h⟩
theorem qjI {X:Cx}{pos:Pos}{k v:Expr}{ks:List (Option Expr)}{vs:List Expr}{tk tv:TE}{trs:List (TE × TE)}(hk:PE X k tk)(hv:PE X v tv)(hr:PPs X pos ks vs trs) :
  PPs X pos (some k :: ks) (v :: vs) ((tk,tv) :: trs):=fun pins s σ H Q I h =>
 pairTrees_cons_walk (thn (hk pins s σ H _ I h) fun u s1 ⟨x,H1,I1,rx,q1⟩=>thn (hv pins s1 σ H1 _ I1 q1) fun w2 s2 ⟨y,H2,I2,ry,q2⟩ =>
  thn (hr pins s2 σ H2 _ I2 q2) fun ws s3 ⟨ps,H3,I3,rel,q3⟩=>⟨(x,y) :: ps,H3,I3,.cons ⟨rx,ry⟩ rel,q3⟩)
def qdg (kvs more:List (Key × V)):List (Key × V):=more.foldl (fun acc kv=>putK acc kv.1 kv.2) kvs
theorem KV.merge:∀ {more:List (Key × V)} {rs:List (Key × Value)} {kvs:List (Key × V)} {vs:List (Key × Value)},KV more rs->KV kvs vs->KV (qdg kvs more) (merged vs rs):=by
 intro more rs kvs vs r
 unfold KV at r
 induction r generalizing kvs vs with
 | nil=>intro q; exact q
 | @cons p q ps qs h t ih =>
  intro r0
  have e:KV (putK kvs p.1 p.2) (stored vs q.1 q.2):=by
   have:=r0.put p.1 h.2
   rw [<- h.1]; exact this
  exact ih e
theorem qbA:∀ (more kvs:List (Key × V)),(qdg kvs more).length≤kvs.length + more.length
 | [],kvs=>by show kvs.length≤kvs.length + 0; omega
 | p :: r,kvs=>by
  have h1:=qbA r (putK kvs p.1 p.2)
  have h2:=qbz kvs p.1 p.2
  show (qdg (putK kvs p.1 p.2) r).length≤_
  rw [List.length_cons]; omega
theorem qdW {P:Program}{w:World}:∀ {kvs:List (Key × V)} {ws:List (Value × Value)},VV (kvs.map fun kv=>(kV kv.1,kv.2)) ws->∃ rs,Carries (qap P w) ws rs/\KV kvs rs
 | [],_,r=>by rw [List.map_nil] at r; cases r; exact ⟨[],True.intro,.nil⟩
 | p :: kvs,_,r=>by
  rw [List.map_cons] at r
  cases r with
  | @cons a b as bs h t =>
   obtain ⟨rs,c,q⟩:=qdW (P:=P) (w:=w) t
   obtain ⟨b1,b2⟩:=b
   exact ⟨(p.1,b2) :: rs,⟨qfL h.1,rfl,c⟩,.cons ⟨rfl,h.2⟩ q⟩
def tDisp (trs:List (TE × TE)):TE:=fun σ H Q=>∀ p,H p=none->qhB trs σ (upd H p (.dK [])) fun ps H2=>H2 p=some (.dK [])/\∃ kvs:List (Key × V),ps=kvs.map (fun kv=>(kV kv.1,kv.2))/\kvs.length≤15/\Q (.ref p) (upd H2 p (.dK (qdg [] kvs)))
theorem qlw {X:Cx}{pos:Pos}{keys:List (Option Expr)}{values:List Expr}{trs:List (TE × TE)}(h:PPs X pos keys values trs)(hall:keys.all (·.isSome)=true)(hl:keys.length=values.length)(h0:keys≠[])
  (h15:keys.length≤15):PE X (.Dict keys values pos) (tDisp trs):=by
 intro pins s σ H Q I q
 have hn:=I.hok.fresh (Nat.le_refl s.heap.objs.size)
 have I1:=I.laid (a:=s.heap.objs.size) (o := .dK []) (h':=s.heap.push { cls := .type "dict",data := .dict #[] }) (t':=s.toks) (fun _ _ q=>Heap.get?_push_of_some _ q) (Nat.le_refl _) (qgI s.heap I.big)
 refine wpAny_Dict_walk (knd:=qap X.prog X.w) hall hl h0 h15 (thn (h pins _ σ _ _ I1 (q _ hn)) fun ws s2 ⟨ps,H2,I2,rel,e,kvs,ep,lk,q2⟩=>?_)
 subst ep
 obtain ⟨rs,c,rk⟩:=qdW (P:=X.prog) (w:=X.w) rel
 obtain ⟨z,hd,vs0,r0,dd⟩:=qma I2.hok e
 cases r0
 refine ⟨rs,c,dd,fun h' dd' hs=>⟨.ref s.heap.objs.size,_,?_,rfl,q2⟩⟩
 have hz:(qdg [] kvs).length≤sizeLine:=by
  have h1:=qbA kvs []
  rw [List.length_nil] at h1
  rw [sizeLine_eq]; omega
 have he:∃ q,h'.get? s.heap.objs.size=some q:=let ⟨q,_,_,hq,_⟩:=dd'; ⟨q,hq⟩
 exact qb3 I2 (by rw [e]; exact True.intro) hs he (qiU hz hd (rk.merge .nil) dd')
structure M2 (X:Cx)(o:Expr)(m:Str)(apos:Pos)(e f:Expr)(cpos:Pos):Prop where
 base:attributeBase o m X.env (eval o X.env)=eval o X.env
 few:((backTo cpos (starEach [e,f] X.env)).all (fun x=>!x.1) && (backToKw cpos (keywordEach [] X.env)).all (fun x=>x.1.isSome)
  && decide (([e,f]:List Expr).length + ([]:List Keyword).length + (if ([]:List Keyword).isEmpty then 0 else 1) < 30))=true
 line:(apos.endLine == cpos.line)=true
 trees:backTo cpos (starEach [e,f] X.env)=[(false,eval e X.env),(false,eval f X.env)]
def IsD (H:Hp)(a:Addr):Prop:=(∃ kvs,Rd H a (.dK kvs))\/∃ kvs,Rd H a (.dT kvs)
theorem qmT {X:Cx}{pins:List (Addr × Obj)}{σ:St}{H:Hp}{s:Shared}{a:Addr}(I:Inv X pins σ H s)(d:IsD H a) :
  s.TypeIs (.ref a) "dict" /\ (∀ b,Value.ref a = .ref b->∃ ob,s.heap.get? b=some ob/\ob.dict=none)/\(a == sysModules)=false:=by
 rcases d with ⟨kvs,e⟩ | ⟨kvs,e⟩
 ·obtain ⟨_,hd,vs,_,dd⟩:=qiT I.hok e
  refine ⟨dd.typeIs,fun b q=>?_,hd⟩
  cases q
  obtain ⟨ob,_,_,h1,h2,_⟩:=dd
  exact ⟨ob,h1,h2.2.1⟩
 ·obtain ⟨_,hd,xs,_,dd⟩:=qiS I.hok e
  refine ⟨dd.typeIs,fun b q=>?_,hd⟩
  cases q
  obtain ⟨ob,_,_,h1,h2,_⟩:=dd
  exact ⟨ob,h1,h2.2.1⟩
section
variable {X:Cx}{pins:List (Addr × Obj)}{σ:St}{H:Hp}{s:Shared}{a:Addr}{y d:V}{u r:Value}{o:Option V}{A:Around}{E:Value->Shared->Prop}
theorem qm4 {Q:Value->Shared->Prop}(hu:A.units + 1 < cLine)(I:Inv X pins σ H s)(g:DGet H a y o)(ry:RelV y u)(rd:RelV d r)(h:∀ w' s',Inv X pins σ H s'->RelV (o.getD d) w'->Q w' s') :
  wpAny (model X.prog X.w) A (call (.builtin "dict.get") [.ref a,u,r]) Q E s:=by
 rcases g with ⟨kvs,k,e,ey,l⟩ | ⟨kvs,k,b,e,ey,eb,l⟩
 ·subst ey
  obtain ⟨z,hd,vs,rel,dd⟩:=qiT I.hok e
  refine call_meetsIn PySem.F.slot_dict_get dd.typeIs PySem.F.entry_dict_get (PySem.F.args_dict_get_3 _ _ _) (meets_dict_get_default (qap X.prog X.w) a (qfL ry) hd r) ⟨_,dd.mapOf,h _ _ (I.tok _) ?_⟩
  rw [l]
  exact (rel.val k).getD rd
 ·subst ey
  cases (show u=Value.ref b from ry)
  obtain ⟨z,hd,xs,rel,dd⟩:=qiS I.hok e
  refine call_meetsIn PySem.F.slot_dict_get dd.typeIs PySem.F.entry_dict_get (PySem.F.args_dict_get_3 _ _ _) (meetsH_dict_get_default (tupleKind (qap X.prog X.w)) a b hd r) ⟨tupleKind_room_in1 hu,k,xs,qeT I.hok eb,dd,h _ _ (I.tok _) ?_⟩
  rw [l]
  exact (rel.val k).getD rd
end
def qmt (td ty tx:TE):TE:=fun σ H Q=>td σ H fun x H1=>∃ a,x = .ref a/\IsD H1 a/\ty σ H1 fun y H2=>tx σ H2 fun z H3=>∃ o,DGet H3 a y o/\Q (o.getD z) H3
section
variable {X:Cx}{o e f:Expr}{apos cpos:Pos}{td ty tx:TE}
theorem qjQ (hu:X.A.units + 1 < cLine)(ho:PE X o td)(he:PE X e ty)(hf:PE X f tx)(m:M2 X o "get" apos e f cpos):PE X (.Call (.Attribute o "get" apos) [e,f] [] cpos) (qmt td ty tx):=by
 intro pins s σ H Q I h
 refine wpAny_Call_method m.base m.few m.line PySem.F.plainAttrs_dict PySem.F.slot_dict_get PySem.F.type_dict_get (thn (ho pins s σ H _ I h) fun u s1 ⟨x,H1,I1,rx,a,ex,d,q1⟩=>?_)
 subst ex
 obtain rfl:u=Value.ref a:=rx
 obtain ⟨t1,t2,_⟩:=qmT I1 d
 refine ⟨t1,t2,?_⟩
 rw [m.trees]
 refine Calls.callWith_builtin rfl (Calls.evalArgs_plain (Calls.spliced_cons (thn (he pins s1 σ H1 _ I1 q1) fun iv s2 ⟨y,H2,I2,ry,q2⟩ =>
  Calls.spliced_cons (thn (hf pins s2 σ H2 _ I2 q2) fun fv s3 ⟨z,H3,I3,rz,ov,g,q3⟩=>Calls.spliced_nil ?_))))
 exact qm4 hu I3 g ry rz fun w' s4 I4 rw'=>⟨_,H3,I4,rw',q3⟩
end
end L2
namespace Att
open PySem PySem.W PySem.Calls PyProof.Rows
theorem qdj {P:Params}{h:Heap}:∀ (ns:List Int) (vs:List Value),WellAll P h vs (ns.map WData.int)->IntsAre vs ns:=by
 intro ns
 induction ns with
 | nil =>
  intro vs w
  rw [List.map_nil] at w
  cases w
  exact .nil
 | cons n ns ih =>
  intro vs w
  rw [List.map_cons] at w
  cases w with
  | cons a b =>
   cases a
   exact .cons _ _ (ih _ b)
theorem qhT {l:OpenLaw}{n:Nat}(hn:l.most=some n){P:Params}{h:Heap}{args:List WData}{vals:List Value}
  (hpre:l.row.toRowW.claim.pre args=true) (hwl:WellAll P h vals args) :
  ∃ a vs ns,vals=[Value.ref a]/\args=[WData.list (ns.map WData.int)]/\h.get? a=some { cls := .type "list",data := .seq vs.toArray }/\IntsAre vs ns/\ns.length≤n:=by
 have hsh:WShape.hasAll [] args [.list .int]=true:=(pre_splitW hpre).1
 have hc:l.pre.holds [] { args:=args }=true:=(pre_splitW hpre).2
 obtain ⟨d,r,rfl,h1,h2⟩:=hasAllW_cons hsh
 obtain rfl:=hasAllW_nil h2
 obtain ⟨xs,rfl,h3⟩:=hasW_list h1
 obtain ⟨ns,rfl⟩:=items_int h3
 have hlen:ns.length≤n:=by
  unfold OpenLaw.pre at hc
  have h4:(WTm.not (.lt (.lit (.int (n:Int))) (.len (.arg 0)))).holds [] { args:=[.list (ns.map .int)] }=true:=by
   have h4:=(holds_andW hc).1
   rw [hn] at h4
   exact h4
  have h5:=condW_of h4 (w_not (w_lt w_lit (w_len_list (w_arg rfl))))
  rw [List.length_map] at h5
  refine Nat.le_of_not_lt fun q=>?_
  have q':(n:Int) < ((ns.length:Nat):Int):=by omega
  first
   | (rw [decide_eq_true q'] at h5; exact absurd h5 (by decide))
   | (simp at h5; omega)
 cases hwl with
 | cons w1 w2 =>
  cases w2
  cases w1 with
  | list ho hall=>exact ⟨_,_,ns,rfl,rfl,ho,qdj ns _ hall,hlen⟩
theorem qh3 (l:OpenLaw)(args:List WData):l.row.toRowW.claim.post args (.bool true) args=true :=
 postW_of (r:=l.row.toRowW) (X:=(true == true))
  (show WShape.has [] (.bool true) .bool=true by first | rfl | decide | simp [WShape.has,WShape.arms,WShape.armsAll])
  (show (WTm.eq .res (.lit (.bool true))).value [] { args:=args,res:=some (.bool true),after:=args }=some (.bool (true == true)) from w_eq_bool (w_res rfl) w_lit) rfl
theorem attach_call {l:OpenLaw}{n:Nat}{q:Program}{loose:List Str}{XP:(Str->Option Value)->Heap->Prop}{YP:World->Heap->Prop}{d:DefRec}
  (hn:l.most=some n) (hdf:d.params.defaults=[])
  (call:∀ (w:World) (s₀ s₁:Shared) (mg mb:Str->Option Value) (fa:Addr) (o:Obj) (pm cd doc:Value) (a:Addr) (vs:List Value) (ns:List Int),
    Ground q loose [] XP w s₀ mg mb s₁.heap->YP w s₁.heap ->
    s₁.heap.get? fa=some o->o.data = .func (docDef d.name d.params d.body d.scope pm cd doc)->s₁.heap.CodeRec cd d.name->mg d.name=some (.ref fa) ->
    s₁.heap.get? a=some { cls := .type "list",data := .seq vs.toArray }->IntsAre vs ns->ns.length≤n->s₁.gens=#[] ->
    codeAny (model l.prog w) callerA (.call (.ref fa) ⟨[.ref a],[]⟩) (fun r s'=>r = .ok (.ret (.bool true))/\OldK s₁.heap s'.heap/\s'.os=s₁.os/\AllBare s'.gens) s₁) :
  WalkO q loose XP YP l.row.toRowW d [] (fun f vs=>PySem.call f vs):=by
 intro w s₀ s₁ mg mb G Y fa o pm cd doc dV kV ho hd hcd hD hmg hg args vals as hpre hlay hrd hwl hlo
 obtain rfl:dV = .none:=Dflts.none hD hdf
 obtain rfl:kV = .none:=Dflts.noKw hD
 obtain ⟨a,vs,ns,rfl,rfl,hobj,hints,hlen⟩:=qhT hn hpre hwl
 refine enter_call (codeAny_mono (call w s₀ s₁ mg mb fa o pm cd doc a vs ns G Y ho (fd_plain hd) hcd hmg hobj hints hlen hg) fun r s' hq=>?_)
 obtain ⟨rfl,h2,h3,h4⟩:=hq
 exact ⟨.inl ⟨.bool true,.bool true,[],rfl,fun _=>rfl,.bool true,qh3 l _,fun _=>⟨List.Pairwise.nil,fun _ hm=>(nomatch hm)⟩⟩,h2,h3,h4⟩
end Att
namespace L2
open PySem PySem.Spec PyProof.Rows
theorem qb6:∀ {vs:List Value} {ns:List Int},IntsAre vs ns->Vals (ns.map V.int) vs
 | _,_,.nil => .nil
 | _,_,.cons n t h => .cons ⟨t,rfl⟩ (qb6 h)
def Only (H:Hp):Prop:=∀ b,H b=none\/∃ o xs,H b=some (.frz o (.lst xs))
theorem qkf {P:Program}{w:World}{K:PySem.W.Frag}{mg mb:Str->Option Value}{CX:CXT}{k:Nat}{fa a:Addr}{fd:FuncData}{x:Str}{sp:Sp}{s₁:Shared}{vs:List Value}{ns:List Int}
  (KX:K.In s₁.heap) (hns:s₁.heap.Ns mainGlobals mg) (hb:s₁.heap.Ns builtinsNs mb) (hbb:∀ x:Str,x ≠ "__name__" -> mb x=bootBuiltins x) (hlim:s₁.heap.NoLimit) (hg:s₁.gens=#[])
  (ha:s₁.heap.get? a=some { cls := .type "list",data := .seq vs.toArray }) (hi:IntsAre vs ns) (hl:ns.length≤sizeLine) (hr:Room k callerA)
  (F:∀ base:Heap,K.In base->base.Ns mainGlobals mg->FnOk P w K mg base CX k fa fd [x] sp) (hbind:∀ (s:Shared) (u:Value),BindsTo s fd ⟨[u],[]⟩ [(x,u)])
  (hsp:∀ H:Hp,Only H->SqL K H a (ns.map V.int)->sp [.ref a] H (fun v _=>v = .bl true) fun _ _ _=>False)
  (hCX:∀ H e s',CX [] H s₁ (fun _ _ _=>False) e s'->False) :
  codeAny (model P w) callerA (.call (.ref fa) ⟨[.ref a],[]⟩) (fun r s'=>r = .ok (.ret (.bool true))/\OldK s₁.heap s'.heap/\s'.os=s₁.os/\AllBare s'.gens) s₁:=by
 have rv:=qb6 hi
 have lenV:=hi.length
 have core:∀ H:Hp,Only H->SqL K H a (ns.map V.int)->HOk P w H s₁.heap->(∀ b,H b≠none->b=a)->(H a≠none->K.lookup a=none) ->
   codeAny (model P w) callerA (.call (.ref fa) ⟨[.ref a],[]⟩) (fun r s'=>r = .ok (.ret (.bool true))/\OldK s₁.heap s'.heap/\s'.os=s₁.os/\AllBare s'.gens) s₁:=by
  intro H hO hS hok hA hK
  have base_of:∀ {b:Addr} {o:Obj},s₁.heap.get? b=some o->H b=none->(hidT s₁.heap H).get? b=some o:=fun e n=>qki e n
  have noA:∀ {b:Addr} {o:Obj} {es:Array DictEntry} {ep:Nat},s₁.heap.get? b=some o->o.data = .dict es ep->H b=none:=fun {b o es ep} e d=>by
   cases q:H b with
   | none=>rfl
   | some u =>
    have e':b=a:=hA b (by rw [q]; simp)
    subst e'
    rw [ha] at e; cases e
    have d':Data.seq vs.toArray _=Data.dict es ep:=d
    cases d'
  have nsK:∀ {b:Addr} {m:Str->Option Value},s₁.heap.Ns b m->(hidT s₁.heap H).Ns b m:=fun {b m} ⟨o,es,ep,e,d,r⟩=>⟨o,es,ep,base_of e (noA e d),d,r⟩
  have hKb:K.In (hidT s₁.heap H):=fun b o e=>base_of (KX b o e) (by
   cases q:H b with
   | none=>rfl
   | some u =>
    have e':b=a:=hA b (by rw [q]; simp)
    subst e'
    rw [hK (by rw [q]; simp)] at e; cases e)
  have hM:Mod K mg (hidT s₁.heap H):=⟨hKb,nsK hns,⟨mb,nsK hb,hbb⟩,let ⟨mc,h1,h2⟩:=hlim; ⟨mc,nsK h1,h2⟩⟩
  have e0:Env0 P w K mg (hidT s₁.heap H) callerA [] s₁ H:=⟨rfl,hM,fun b o e=>qlN e,Nat.le_of_eq (qiG _ _),trivial,fun b hb=>absurd (show b∈([]:List Addr) from hb) (by simp),hok,.of_eq hg⟩
  refine codeAny_mono ((F _ hKb (nsK hns)).run callerA [] s₁ H ⟨[.ref a],[]⟩ [.ref a] [.ref a] _ _ hr e0 (hbind s₁ (.ref a)) (.cons rfl .nil) (hsp H hO hS)) fun r s' h=>?_
  cases r with
  | error e=>exact (hCX H e s' h).elim
  | ok fl =>
   cases fl with
   | next=>exact False.elim h
   | brk=>exact False.elim h
   | cont=>exact False.elim h
   | ret u =>
    obtain ⟨v,H',os,bare,un,hok',r',q⟩:=h
    have q':v = .bl true:=q
    subst q'
    obtain rfl:u=Value.bool true:=r'
    refine ⟨rfl,OldK.of_keep fun b o e=>?_,os,bare⟩
    cases q:H b with
    | none=>exact un.keep b o e q (by intro z; exact absurd (show b∈([]:List Addr) from z) (by simp)) (by simp)
    | some u =>
     rcases hO b with z | ⟨ob,xs,z⟩
     ·rw [q] at z; cases z
     ·have z2:=un.frzs b ob _ z
      obtain ⟨e1,_⟩:=hok b _ z
      obtain ⟨e2,_⟩:=hok' b _ z2
      rw [e] at e1; cases e1
      exact e2
 cases hk:K.lookup a with
 | some o =>
  have e:=KX a o hk
  rw [ha] at e
  cases e
  refine core (fun _=>none) (fun _ => .inl rfl) (.inr ⟨_,vs.toArray,_,hk,rfl,rfl,rfl,by rw [List.size_toArray,lenV]; exact hl,by simpa using rv⟩) (fun b u z=>by have z':(none:Option HO)=some u:=z; cases z') (fun b z=>absurd rfl z) fun z=>absurd rfl z
 | none =>
  refine core (fun b=>if b=a then some (.frz { cls := .type "list",data := .seq vs.toArray } (.lst (ns.map V.int))) else none) (fun b=>?_) (.inl (.inr ⟨{ cls := .type "list",data := .seq vs.toArray },if_pos rfl⟩)) (fun b u z=>?_) (fun b z=>?_) fun _=>hk
  ·by_cases hb:b=a
   ·exact .inr ⟨_,_,if_pos hb⟩
   ·exact .inl (if_neg hb)
  ·by_cases hb:b=a
   ·have z':=(if_pos hb).symm.trans z
    cases z'
    subst hb
    exact ⟨ha,by rw [List.length_map]; exact hl,vs,_,rv,ha⟩
   ·have z':=(if_neg hb).symm.trans z
    cases z'
  ·by_cases hb:b=a
   ·exact hb
   ·exact absurd (if_neg hb) z
abbrev KOf {K:PySem.W.Frag}{h:Heap}(_:K.In h):PySem.W.Frag:=K
theorem walk_of {l:PySem.W.OpenLaw}{n k:Nat}{q:Program}{loose:List Str}{XP:(Str->Option Value)->Heap->Prop}{YP:World->Heap->Prop}{d:DefRec}{K:Params->PySem.W.Frag}{CX:World->CXT}{sp:World->Sp}{x:Str}
  (hn:l.most=some n) (hn2:n≤sizeLine) (hdf:d.params.defaults=[]) (hr:Room k callerA)
  (hY:∀ (w:World) (h:Heap),YP w h->(K w.params).In h)
  (F:∀ (w:World) (mg:Str->Option Value) (fa:Addr) (h:Heap),(K w.params).In h->h.Ns mainGlobals mg->mg d.name=some (.ref fa) ->
    ∃ fd:FuncData,(∀ (s:Shared) (u:Value),BindsTo s fd ⟨[u],[]⟩ [(x,u)]) /\
     ∀ base:Heap,(K w.params).In base->base.Ns mainGlobals mg->FnOk l.prog w (K w.params) mg base (CX w) k fa fd [x] (sp w))
  (hsp:∀ (w:World) (H:Hp) (a:Addr) (ns:List Int),ns.length≤n->Only H->SqL (K w.params) H a (ns.map V.int)->sp w [.ref a] H (fun v _=>v = .bl true) fun _ _ _=>False)
  (hCX:∀ (w:World) (H:Hp) (s:Shared) (e:Value) (s':Shared),CX w [] H s (fun _ _ _=>False) e s'->False) :
  PySem.W.WalkO q loose XP YP l.row.toRowW d [] (fun f vs=>PySem.call f vs):=by
 refine Att.attach_call hn hdf fun w s₀ s₁ mg mb fa o pm cd doc a vs ns G Y ho hd hcd hmg hobj hints hlen hg=>?_
 have KX:=hY w _ Y
 obtain ⟨fd,hb,hF⟩:=F w mg fa _ KX G.T.g hmg
 exact qkf KX G.T.g G.T.b G.T.builtins G.T.nolimit hg hobj hints (Nat.le_trans hlen hn2) hr hF hb (fun H hO hS=>hsp w H a ns hlen hO hS) fun H e s'=>hCX w H s₁ e s'
end L2
/- THE LAST THEOREM (shape; LID,My.* are yours):
  My.Adr: a structure of the addresses that your layer names (classes,functions); My.Txt K t: a structure (Prop) of the equations over K;
  My.txt_mk:{K} {implicit addresses ..} (e1:nsIn K mainGlobals "law" = some (some (.ref f))) (e2:K.lookup f=some ⟨oc,od,.func (fnOf "law" "law" params body scope dV kV doc pm an cdv ct),sl⟩) (e3:codeIn K cdv "law" = true) ..:∃ t,My.Txt K t
(the tactic k_is has no namespace: write k_is) -/
namespace L2
open PySem PySem.Spec PyProof.Rows
def qbP (s:Stmt):Arguments:=match s with
 | .FunctionDef _ a _ _ _ _ _ _ _ _=>a
 | _=>{ posonlyargs:=[],args:=[],vararg:=none,kwonlyargs:=[],kw_defaults:=[],kwarg:=none,defaults:=[] }
def qbo (s:Stmt):List Stmt:=match s with
 | .FunctionDef _ _ b _ _ _ _ _ _ _=>b
 | _=>[]
def qad (s:Stmt):Scope:=match s with
 | .FunctionDef _ _ _ _ _ _ sc _ _ _=>sc
 | _=>{ kind := .function,names:=[],isGenerator:=false,isCoroutine:=false }
abbrev CX0:CXT:=fun _ _ _ _ _ _=>False
abbrev E0:XK:=fun _ _ _=>False
theorem pass0 {X:Cx}:qjq CX0 X E0:=fun _ _ _ _ _ _ _ h=>h.elim
structure Fun (K:PySem.W.Frag)(x qual:Str)(st:Stmt)(f:Addr)(fd:FuncData):Prop where
 ex:∃ (oc:Value) (od:Option Addr) (kV doc pm:Value) (an:Option Addr) (cdv ct:Value) (osl:Array (Option Value)),
  fd=PySem.W.fnOf x qual (qbP st) (qbo st) (qad st) .none kV doc pm an cdv ct/\K.lookup f=some ⟨oc,od,.func fd,osl⟩/\PySem.W.codeIn K cdv qual=true
 kp:PySem.W.keepIn K (.ref f)=true
section
variable {P:Program}{w:World}{K:PySem.W.Frag}{mg:Str->Option Value}{base:Heap}
theorem Fun.ok {x qual:Str}{st:Stmt}{f:Addr}{fd:FuncData}{N ps:List Str}{k:Nat}{sp:Sp}(F:Fun K x qual st f fd)(S:qak N ps (qad st))(len:∀ vs H Q E,sp vs H Q E->vs.length=ps.length)
  (hbody:∀ (cdv:Value) (A:Around) (outer:List Env) (s:Shared) (H:Hp) (vs:List V) (Q:VK) (E:XK),Room k (A.deeper (envOfC qual (qad st) s.heap.objs.size f cdv))->sp vs H Q E ->
    ∃ t,PSs (cxOf CX0 P w K mg base N qual (qad st) f cdv A outer s H E).nox (qbo st) t/\t { nx:=fun _ H'=>Q .non H',rt:=Q } (start N vs) H):FnOk P w K mg base CX0 (k + 1) f fd ps sp:=by
 obtain ⟨oc,od,kV,doc,pm,an,cdv,ct,osl,rfl,lk,hcd⟩:=F.ex
 refine fn_of lk hcd S len fun A outer s H vs Q E hr hsp=>?_
 obtain ⟨t,h,q⟩:=hbody cdv A outer s H vs Q E hr hsp
 exact ⟨t,h.nox,q⟩
theorem Fun.binds {x qual:Str}{st:Stmt}{f:Addr}{fd:FuncData}{ps:List Str}(F:Fun K x qual st f fd)
  (h:∀ (kV doc pm:Value) (an:Option Addr) (cdv ct:Value) (us:List Value),us.length=ps.length->bindArgs (PySem.W.fnOf x qual (qbP st) (qbo st) (qad st) .none kV doc pm an cdv ct) ⟨us,[]⟩=pure (ps.zip us)):Binds K fd ps []:=by
 obtain ⟨oc,od,kV,doc,pm,an,cdv,ct,osl,rfl,lk,hcd⟩:=F.ex
 exact .all (h kV doc pm an cdv ct)
theorem qk4 {x qual:Str}{st:Stmt}{f:Addr}{oc:Value}{od an:Option Addr}{osl:Array (Option Value)}{kV doc pm cdv ct:Value}(l:K.lookup f=some ⟨oc,od,.func (PySem.W.fnOf x qual (qbP st) (qbo st) (qad st) .none kV doc pm an cdv ct),osl⟩)
  (c:PySem.W.codeIn K cdv qual=true) (k:PySem.W.keepIn K (.ref f)=true):Fun K x qual st f (PySem.W.fnOf x qual (qbP st) (qbo st) (qad st) .none kV doc pm an cdv ct):=⟨⟨oc,od,kV,doc,pm,an,cdv,ct,osl,rfl,l,c⟩,k⟩
end
theorem ql1 {A:Around}{k:Nat}(hr:Room k A):A.units + 1 < cLine:=Nat.lt_of_le_of_lt (Nat.add_le_add_left (by decide:1≤64) _) hr.units
section
variable {X:Cx}
theorem pv (i:Nat){x:Str}{pos:Pos}(hN:X.N[i]?=some x:=by rfl)(hv:Vis X.env.scope x:=by first | exact Or.inl rfl | exact Or.inr (Or.inl rfl) | exact Or.inr (Or.inr rfl))(hd:(x == ("__debug__" : Str))=false:=by decide)
  (hcd:(x == ("__classdict__" : Str))=false:=by decide):PE X (.Name x pos) (tVar i):=qmD hN hv hd hcd
end
theorem iteF {A B:Prop}(h:B):if false=true then A else B:=by
 rw [if_neg Bool.false_ne_true]
 exact h
theorem iteT {A B:Prop}(h:A):if true=true then A else B:=by
 rw [if_pos rfl]
 exact h
theorem ite2 {c A B:Prop}[Decidable c](h1:c->A)(h2:¬ c->B):if c then A else B:=by
 by_cases h:c
 ·rw [if_pos h]
  exact h1 h
 ·rw [if_neg h]
  exact h2 h
def Same (H H':Hp):Prop:=∀ b o,H b=some o->H' b=some o
theorem Same.refl (H:Hp):Same H H:=fun _ _ h=>h
theorem Same.trans {H H1 H2:Hp}(a:Same H H1)(b:Same H1 H2):Same H H2:=fun c o h=>b c o (a c o h)
abbrev Bt (n:Nat)(i:Int):Prop:=Builtin.Int.intBits i≤n
theorem Bt.mono {m n:Nat}{i:Int}(h:Bt m i)(l:m≤n):Bt n i:=Nat.le_trans h l
theorem Bt.log {n:Nat}{i:Int}(h:Bt n i)(l:n≤8999):i.natAbs.log2 < 9000:=by
 have h1:=intBits_le_iff.mp h
 by_cases z:i.natAbs=0
 ·rw [z]; decide
 ·exact Nat.lt_of_lt_of_le ((Nat.log2_lt z).mpr h1) (by omega)
theorem Bt.mul {m n:Nat}{i j:Int}(h:Bt m i)(h':Bt n j):Bt (m + n) (i * j):=intBits_mul_le h h'
theorem Bt.of_le {n:Nat}{i j:Int}(h:Bt n j)(l:i.natAbs≤j.natAbs):Bt n i:=intBits_le_of_natAbs l h
theorem Bt.of_lt {n:Nat}{i:Int}(l:i.natAbs < 2 ^ n):Bt n i:=intBits_le_iff.mpr l
section
variable {X:Cx}
def CMulB (i j:Int):Prop:=Bt 20000 i/\Bt 20000 j
theorem qbx:OpR X (binaryOp .Mult) (rI CMulB fun i j => .int (i * j)):=opI fun _ _ _ _ _ _ _ hc q=>mul_int q (IntMulOk.of_le hc.1 hc.2 (by decide))
def CDivB (i j:Int):Prop:=0 < j/\Bt 8000 j
theorem qbU:OpR X (binaryOp .FloorDiv) (rI CDivB fun i j => .int (i / j)):=opI fun i j _ _ _ _ _ hc q=>by
 refine floordiv_int (by have:=hc.1; omega) ?_ (.inl (PyProof.noPylong_of_log2 (hc.2.log (by decide))))
 rw [Int.fdiv_eq_ediv_of_nonneg i (Int.le_of_lt hc.1)]
 exact q
def qkq (xs ys:List V):Bool:=(List.range (min xs.length ys.length)).all (fun j=>eqV (xs.getD j .non) (ys.getD j .non)) && xs.length == ys.length
theorem qaa {α:Type}{xs:List α}{d:α}{j:Nat}(h:j < xs.length):xs.getD j d=xs[j]:=by
 rw [List.getD_eq_getElem?_getD,List.getElem?_eq_getElem h]; rfl
theorem qk9 {f:V->Bool}{xs:List V}(h:xs.all f=true){j:Nat}(hj:j < xs.length):f (xs.getD j .non)=true:=by
 rw [qaa hj]
 exact List.all_eq_true.mp h _ (List.getElem_mem hj)
theorem qkP {xs:List V}{us:List Value}(r:Vals xs us){j:Nat}(hj:j < us.toArray.size):RelV (xs.getD j .non) (us.toArray[j]):=by
 have hl:=r.length
 have hj':j < us.length:=by simpa using hj
 have hx:j < xs.length:=by omega
 obtain ⟨u,h1,h2⟩:=r.get (i:=j) (x:=xs[j]) (List.getElem?_eq_getElem hx)
 rw [qaa hx]
 have:us.toArray[j]=us[j]:=by simp
 rw [this]
 rw [List.getElem?_eq_getElem hj'] at h1
 cases h1
 exact h2
end
structure Cal (P:Program)(w:World)(K:PySem.W.Frag)(mg:Str->Option Value)(base:Heap)(x:Str)(ps:List Str)(k:Nat)(sp:Sp):Prop where
 ex:∃ f fd,FnOk P w K mg base CX0 k f fd ps sp/\mg x=some (.ref f)/\PySem.W.keepIn K (.ref f)=true/\Binds K fd ps []
structure FunAt (K:PySem.W.Frag)(mg:Str->Option Value)(x:Str)(ps:List Str)(st:Stmt):Prop where
 ex:∃ f fd,Fun K x x st f fd/\mg x=some (.ref f)/\Binds K fd ps []
theorem FunAt.cal {P:Program}{w:World}{K:PySem.W.Frag}{mg:Str->Option Value}{base:Heap}{x:Str}{ps N:List Str}{st:Stmt}{k:Nat}{sp:Sp}(F:FunAt K mg x ps st)(S:qak N ps (qad st))(len:∀ vs H Q E,sp vs H Q E->vs.length=ps.length)
  (hbody:∀ (f:Addr) (cdv:Value) (A:Around) (outer:List Env) (s:Shared) (H:Hp) (vs:List V) (Q:VK) (E:XK),Room k (A.deeper (envOfC x (qad st) s.heap.objs.size f cdv))->sp vs H Q E ->
    ∃ t,PSs (cxOf CX0 P w K mg base N x (qad st) f cdv A outer s H E).nox (qbo st) t/\t { nx:=fun _ H'=>Q .non H',rt:=Q } (start N vs) H):Cal P w K mg base x ps (k + 1) sp:=by
 obtain ⟨f,fd,F1,m,b⟩:=F.ex
 exact ⟨f,fd,F1.ok S len (hbody f),m,F1.kp,b⟩
section
variable {X:Cx}{x:Str}{ps:List Str}{k:Nat}{sp:Sp}{e:Expr}{es:List Expr}{t:TA}{p pos:Pos}
theorem cc (c:Cal X.prog X.w X.K X.mg X.base x ps k sp)(hr:Room k X.A)(ha:PA X (e :: es) t)(hg:Gl X x:=by rfl)(hd:(x == ("__debug__" : Str))=false:=by decide)
  (hs:starEach (e :: es) X.env=(false,eval e X.env) :: starEach es X.env:=by rfl) (hp:(backTo pos (starEach es X.env)).any (·.1)=false:=by rfl):PE X (.Call (.Name x p) (e :: es) [] pos) (qmu sp [] E0 t):=by
 obtain ⟨f,fd,F,m,kp,b⟩:=c.ex
 exact qly F hr hg m kp b .nil pass0 ha hd hs hp
end
theorem funAt_mk {K:PySem.W.Frag}{h:Heap}{mg:Str->Option Value}{x:Str}{ps:List Str}{st:Stmt}{f:Addr}{oc:Value}{od an:Option Addr}{osl:Array (Option Value)}{kV doc pm cdv ct:Value}(X:K.In h)(G:h.Ns mainGlobals mg)
  (hb:∀ (kV doc pm:Value) (an:Option Addr) (cdv ct:Value) (us:List Value),us.length=ps.length->bindArgs (PySem.W.fnOf x x (qbP st) (qbo st) (qad st) .none kV doc pm an cdv ct) ⟨us,[]⟩=pure (ps.zip us))
  (a:PySem.W.nsIn K mainGlobals x=some (some (.ref f))) (l:K.lookup f=some ⟨oc,od,.func (PySem.W.fnOf x x (qbP st) (qbo st) (qad st) .none kV doc pm an cdv ct),osl⟩)
  (c:PySem.W.codeIn K cdv x=true) (k:PySem.W.keepIn K (.ref f)=true):FunAt K mg x ps st :=
 let F:=qk4 (st:=st) l c k
 ⟨f,_,F,PySem.W.mg_of X G a,F.binds hb⟩
theorem qdY:bootBuiltins "abs" = some (.builtin "abs"):=by decide +kernel
theorem qa4:bootBuiltins "len" = some (.builtin "len"):=by decide +kernel
theorem qjd:bootBuiltins "int" = some (.type "int"):=by decide +kernel
theorem qbE:bootBuiltins "tuple" = some (.type "tuple"):=by decide +kernel
theorem qdo:bootBuiltins "list" = some (.type "list"):=by decide +kernel
open MA
def ShAt (H:Hp)(v:V)(q:Rat):Prop:=∃ p,v = .ref p/\H p=some (.tup [.int q.num,.int (q.den:Int)])
def SB (n:Nat)(q:Rat):Prop:=Bt n q.num/\Bt n (q.den:Int)
theorem sN {H:Hp}{p:Addr}(h:H p=none)(o:HO):Same H (upd H p o):=fun b u q=>by rw [uE (qae q h)]; exact q
theorem ShAt.same {H H':Hp}{v:V}{q:Rat}(h:ShAt H v q)(s:Same H H'):ShAt H' v q:=let ⟨p,e,h⟩:=h; ⟨p,e,s _ _ h⟩
theorem SB.mono {m n:Nat}{q:Rat}(h:SB m q)(l:m≤n):SB n q:=⟨h.1.mono l,h.2.mono l⟩
theorem Bt.ediv {n:Nat}{i c:Int}(h:Bt n i)(hc:0 < c):Bt n (i / c):=by
 rw [<- Int.fdiv_eq_ediv_of_nonneg i (Int.le_of_lt hc)]; exact intBits_fdiv_le h
theorem Bt.gl {n:Nat}{a b:Int}(h:Bt n a)(ha:a≠0):Bt n (gI a b) :=
 h.of_le (Nat.le_of_dvd (by omega) (Int.natAbs_dvd_natAbs.mpr (qbk a b)))
theorem Bt.gr {n:Nat}{a b:Int}(h:Bt n b)(hb:b≠0):Bt n (gI a b):=by rw [ql4]; exact h.gl hb
theorem SB.divInt {n:Nat}{t b:Int}(ht:Bt n t)(hb:Bt n b)(h0:0 < b):SB n (Rat.divInt t b):=by
 have e:=qbI (t:=t) h0
 have g:=qay (a:=t) (b:=b) (by omega)
 exact ⟨by rw [<- e.1]; exact ht.ediv g,by rw [<- e.2]; exact hb.ediv g⟩
theorem qcw {env:Env}:∀ (ns:List (Str × NameKind)) (cs:List (Str × Addr)),(∀ x∈ns,x.2 = .free->∃ c,env.cells.lookup x.1=some c)->(∀ x c,cs.lookup x=some c->env.cells.lookup x=some c) ->
  ∃ cl,(forIn ns cs (fun (p:Str × NameKind) (r:List (Str × Addr))=>if (p.2 == NameKind.free)=true then (do let c <- cellOf env p.1; pure (ForInStep.yield ((p.1,c) :: r))) else pure (ForInStep.yield r)):Sem (List (Str × Addr)))=pure cl /\
   (∀ x c,cl.lookup x=some c->env.cells.lookup x=some c)/\(∀ x,(x,NameKind.free)∈ns->∃ c,cl.lookup x=some c)/\(∀ x c,cs.lookup x=some c->∃ c',cl.lookup x=some c')
 | [],cs,_,hcs=>⟨cs,rfl,hcs,fun _ h=>(by simp at h),fun x c h=>⟨c,h⟩⟩
 | (n,k) :: r,cs,hall,hcs=>by
  by_cases hk:k = .free
  ·subst hk
   obtain ⟨c,hc⟩:=hall (n,.free) (by simp) rfl
   have hce:cellOf env n=pure c:=by unfold cellOf; rw [hc]
   have hcs':∀ x d,((n,c) :: cs).lookup x=some d->env.cells.lookup x=some d:=fun x d h=>by
    rw [List.lookup_cons] at h
    cases e:x == n with
    | true=>rw [e] at h; cases h; rw [eq_of_beq e]; exact hc
    | false=>rw [e] at h; exact hcs x d h
   obtain ⟨cl,e,h1,h2,h3⟩:=qcw r ((n,c) :: cs) (fun x hx=>hall x (by simp [hx])) hcs'
   refine ⟨cl,?_,h1,fun x hx=>?_,fun x d hd=>?_⟩
   ·rw [List.forIn_cons,<- e]
    show (cellOf env n >>= _) >>= _=_
    rw [hce]
    rfl
   ·rcases List.mem_cons.mp hx with z | z
    ·cases z
     exact h3 n c (by simp)
    ·exact h2 x z
   ·cases q:x == n with
    | true=>exact h3 x c (by rw [List.lookup_cons,q])
    | false=>exact h3 x d (by rw [List.lookup_cons,q]; exact hd)
  ·obtain ⟨cl,e,h1,h2,h3⟩:=qcw r cs (fun x hx=>hall x (by simp [hx])) hcs
   refine ⟨cl,?_,h1,fun x hx=>?_,h3⟩
   ·rw [List.forIn_cons,<- e]
    have:(k == NameKind.free)=false:=by simpa using hk
    simp only [this,Bool.false_eq_true,if_false]
    rfl
   ·rcases List.mem_cons.mp hx with z | z
    ·cases z
     exact absurd rfl hk
    ·exact h2 x z
theorem qbu {env:Env}{scope:Scope}(hall:∀ x∈scope.names,x.2 = .free->∃ c,env.cells.lookup x.1=some c) :
  ∃ cl,closureFor scope env=pure cl/\(∀ x c,cl.lookup x=some c->env.cells.lookup x=some c)/\(∀ x,(x,NameKind.free)∈scope.names->∃ c,cl.lookup x=some c):=by
 obtain ⟨cl,e,h1,h2,_⟩:=qcw (env:=env) scope.names [] hall (fun x c h=>by simp at h)
 refine ⟨cl,?_,h1,h2⟩
 simp only [closureFor]
 rw [e]
 rfl
def qah (X:Cx)(scope:Scope)(N:List Str)(cl:List (Str × Addr))(C:Addr)(s:Shared)(H:Hp)(ex:List Addr):Cx :=
 { X with N:=N,s₀:=s,H₀:=H,env:=compEnvC scope cl C X.env,outer:=X.stack,stack:=X.stack,ex:=ex,fn:=fun _=>false,pn:=[] }
def PTs (X:Cx)(ifs:List Expr)(t:TT):Prop :=
 ∀ (pins:List (Addr × Obj)) (s:Shared) (σ:St) (H:Hp) (Q:Bool->Hp->Prop),Inv X pins σ H s->t σ H Q ->
  wpAny (model X.prog X.w) X.A (forIn ifs true fun c r=>if r=true then do let ok <- isTrue c X.env (eval c X.env); pure (ForInStep.yield ok) else pure (ForInStep.yield r)) (TP X pins σ Q) X.xe s
def tTT:TT:=fun _ H Q=>Q true H
theorem qaG {X:Cx}:PTs X [] tTT:=fun pins s σ H Q I h=>wpAny_tests_nil ⟨H,I,h⟩
theorem qcq {X:Cx}{c:Expr}{t:TT}(h:PT X c t):PTs X [c] t:=fun pins s σ H Q I hw=>wpAny_tests_one (h pins s σ H Q I hw)
def qjv (σ0:St->St)(wi:TI)(g:TG)(tc:TT)(te:TE):TE:=fun σ H Q=>wi σ H fun J H1=>∀ p,H1 p=none->∃ W:Nat->Nat->List V->St->Hp->Prop,(∃ m,W 0 m [] (σ0 σ) (upd H1 p (.lst [])))/\∀ i m ys σ' H',W i m ys σ' H' ->
 (J.stop i H'/\Q (.ref p) H')\/(J.go i H'/\∀ x H2,J.yld i H' x H2->g x σ' H2 fun σ2 H3=>tc σ2 H3 fun b H4=>if b=true then te σ2 H4 fun v H5=>ys.length < sizeLine/\H5 p=some (.lst ys)/\(∃ m',m' < m/\W (i + 1) m' (ys ++ [v]) σ2 (upd H5 p (.lst (ys ++ [v]))))
  else ∃ m',m' < m/\W (i + 1) m' ys σ2 H4)
def Sees (X:Cx)(scope:Scope)(N:List Str)(σ0:St->St):Prop :=
 ∀ σ:St,(σ0 σ).length=N.length/\∀ (i:Nat) (x:Str) (v:V),N[i]?=some x->(σ0 σ)[i]?=some (some v)->scope.names.lookup x=some .free/\∃ j:Nat,X.N[j]?=some x/\σ[j]?=some (some v)
theorem qaj {env:Env}{names:List (Str × NameKind)}{x:Str}:∀ {k},(names.map fun (n,k)=>if (k == NameKind.free && env.scope.kind == .function && env.kindOf n == some .cell)=true then (n,NameKind.cell) else (n,k)).lookup x=some k->(x,k)∈names\/(k = .cell/\(x,NameKind.free)∈names):=by
 induction names with
 | nil=>intro k h; simp at h
 | cons a r ih =>
  intro k h
  obtain ⟨n,k0⟩:=a
  rw [List.map_cons] at h
  dsimp only at h
  by_cases hc:(k0 == NameKind.free && env.scope.kind == .function && env.kindOf n == some .cell)=true
  ·rw [if_pos hc] at h
   have hk0:k0 = .free:=by
    simp only [Bool.and_eq_true,beq_iff_eq] at hc
    exact hc.1.1
   rw [List.lookup_cons] at h
   cases e:x == n with
   | true =>
    rw [e] at h
    cases h
    exact .inr ⟨rfl,by rw [eq_of_beq e,hk0]; simp⟩
   | false =>
    rw [e] at h
    rcases ih h with z | ⟨z1,z2⟩
    ·exact .inl (List.mem_cons_of_mem _ z)
    ·exact .inr ⟨z1,List.mem_cons_of_mem _ z2⟩
  ·rw [if_neg hc] at h
   rw [List.lookup_cons] at h
   cases e:x == n with
   | true =>
    rw [e] at h
    cases h
    exact .inl (by rw [eq_of_beq e]; simp)
   | false =>
    rw [e] at h
    rcases ih h with z | ⟨z1,z2⟩
    ·exact .inl (List.mem_cons_of_mem _ z)
    ·exact .inr ⟨z1,List.mem_cons_of_mem _ z2⟩
theorem qar {env:Env}{x:Str}:∀ {names:List (Str × NameKind)},names.lookup x=some .free ->
  (names.map fun (n,k)=>if (k == NameKind.free && env.scope.kind == .function && env.kindOf n == some .cell)=true then (n,NameKind.cell) else (n,k)).lookup x=some .cell\/(names.map fun (n,k)=>if (k == NameKind.free && env.scope.kind == .function && env.kindOf n == some .cell)=true then (n,NameKind.cell) else (n,k)).lookup x=some .free
 | [],h=>by simp at h
 | (n,k0) :: r,h=>by
  rw [List.lookup_cons] at h
  rw [List.map_cons]
  dsimp only
  cases e:x == n with
  | true =>
   rw [e] at h
   cases h
   by_cases hc:(NameKind.free == NameKind.free && env.scope.kind == .function && env.kindOf n == some .cell)=true
   ·rw [if_pos hc]; left; rw [List.lookup_cons,e]
   ·rw [if_neg hc]; right; rw [List.lookup_cons,e]
  | false =>
   rw [e] at h
   have ih:=qar (env:=env) h
   by_cases hc:(k0 == NameKind.free && env.scope.kind == .function && env.kindOf n == some .cell)=true
   ·rw [if_pos hc,List.lookup_cons,e]; exact ih
   ·rw [if_neg hc,List.lookup_cons,e]; exact ih
theorem qaQ {x:Str}{k:NameKind}:∀ {names:List (Str × NameKind)},names.lookup x=some k->(x,k)∈names:=fun h=>PySem.mem_of_lookup h
theorem qaE {X:Cx}{elt tg iter:Expr}{ifs:List Expr}{scope:Scope}{pos:Pos}{wi:TI}{g:TG}{tc:TT}{te:TE}{N:List Str}{σ0:St->St}
  (hc:X.calm=true) (hxe:∀ e s,X.xe e s->False) (hcell:∀ y∈scope.names,y.2 ≠ .cell) (hkind:scope.kind = .function) (hnames:∀ y∈scope.names,y.2 = .local->scope.names.lookup y.1=some .local)
  (hfr:∀ y∈scope.names,y.2 = .free->X.env.kindOf y.1=some .cell\/X.env.kindOf y.1=some .free) (hσ:Sees X scope N σ0)
  (hi:PI X tg iter wi)
  (hg:∀ cl C s H ex,PG (qah X scope N cl C s H ex) tg g) (ht:∀ cl C s H ex,PTs (qah X scope N cl C s H ex) ifs tc) (he:∀ cl C s H ex,PE (qah X scope N cl C s H ex) elt te)
  (hs:∀ x,foldedSetIterable iter X.env x=pure x:=by intro _; rfl):PE X (.ListComp elt [⟨tg,iter,ifs,0⟩] scope pos) (qjv σ0 wi g tc te):=by
 intro pins s σ H Q I h
 obtain ⟨cl,hclos,hcl1,hcl2⟩:=qbu (env:=X.env) (scope:=scope) fun y hy hf=>I.ok.has y.1 (hfr y hy hf)
 rw [eval_ListComp]
 refine wpAny_comprehension_free (use:=none) rfl hs hclos hkind hnames (thn (hi pins s σ H _ I h) fun v s1 h1=>thn h1 fun itv s2 h2=>?_)
 obtain ⟨it,fp,tn,J,H2,e,I2,T,st2,f2,h3⟩:=h2
 subst e
 have hpn:H2 s2.heap.objs.size=none:=I2.hok.fresh (Nat.le_refl _)
 obtain ⟨W,⟨m0,w0⟩,turn⟩:=h3 _ hpn
 refine wpAny_newObj_type ?_
 generalize hp:s2.heap.objs.size=p at *
 have I3:Inv X pins σ (upd H2 p (.lst [])) { s2 with heap:=s2.heap.push { cls := .type "list",dict:=none,data := .seq ([]:List Value).toArray } }:=by
  refine I2.laid (a:=p) (o := .lst []) (t':=s2.toks) (fun b u q=>Heap.get?_push_of_some _ q) (Nat.le_of_eq hp) ⟨Nat.zero_le _,[],0,.nil,?_⟩
  rw [<- hp]
  exact Heap.get?_push_size _ rfl
 have hf3:∀ b∈fp,FpOk X pins (upd H2 p (.lst [])) b:=fun b hb=>by
  obtain ⟨o,ho,_⟩:=T.obj _ _ st2 b hb
  have:b≠p:=by rw [<- hp]; exact Nat.ne_of_lt (Heap.lt_size ho)
  exact ⟨by rw [uE this]; exact (f2 b hb).1,(f2 b hb).2⟩
 generalize hs3:({ s2 with heap:=s2.heap.push { cls := .type "list",dict:=none,data := .seq ([]:List Value).toArray } }:Shared)=s3 at *
 have st3:tn 0 s3.heap:=by rw [<- hs3]; exact T.keep _ _ _ st2 fun b _ o e=>Heap.get?_push_of_some _ e
 generalize hH3:upd H2 p (.lst [])=H3 at *
 refine wpAny_newFunctionEnv hcell (by intro y hy; simp at hy) (fun h1 hns1 hsb1=>?_) hkind
 generalize hC:s3.heap.objs.size=C at *
 have keep:∀ b u,s3.heap.get? b=some u->h1.get? b=some u:=fun b u q =>
  hsb1.extBut b u (by rw [<- hC]; exact Nat.ne_of_lt (Heap.lt_size q)) (Heap.get?_push_of_some _ q)
 have fpC:∀ b∈fp,b≠C:=fun b hb=>by
  obtain ⟨o,ho,_⟩:=T.obj _ _ st3 b hb
  rw [<- hC]; exact Nat.ne_of_lt (Heap.lt_size ho)
 have hCn:H3 C=none:=I3.hok.fresh (Nat.le_of_eq hC)
 have ok':(qah X scope N cl C s3 H3 fp).Ok:=by
  refine ⟨I3.mod,hkind,I3.ok.glob,I3.ok.blt,Nat.le_of_eq hC,fun x y c a b=>I3.ok.inj x y c (hcl1 x c a) (hcl1 y c b),fun x hx=>?_,fun _ _ z=>Bool.noConfusion (show false=true from z),I3.ok.hd,I3.ok.frames,.inl rfl,fun b hb=>⟨fpC b hb,fun x c q=>(hf3 b hb).2.2.2.2.1 x c (hcl1 x c q)⟩,
   I3.bs,Nat.le_trans I3.ok.bsz I3.sz,fun b o e hb=>?_,fun b hb z=>?_,I3.stack,I3.stkFree⟩
  ·have hx':(relabel scope X.env).names.lookup x=some .cell\/(relabel scope X.env).names.lookup x=some .free:=hx
   rcases hx' with z | z
   ·rcases qaj z with y | ⟨_,y⟩
    ·exact absurd rfl (hcell _ y)
    ·exact hcl2 x y
   ·rcases qaj z with y | ⟨y,_⟩
    ·exact hcl2 x y
    ·cases y
  ·rcases (hf3 b hb).2.2.2.1 with z | z
   ·exact I3.ok.noex b o e z
   ·exact absurd (Nat.lt_of_lt_of_le (Heap.lt_size e) (Nat.le_trans I3.ok.bsz z)) (Nat.lt_irrefl _)
  ·rcases List.mem_cons.mp (I3.stkSub b z) with q | q
   ·exact (hf3 b hb).2.1 q
   ·exact (hf3 b hb).2.2.1 q
 have J0:Inv (qah X scope N cl C s3 H3 fp) [] (σ0 σ) H3 { s3 with heap:=h1,toks:=s3.toks + ([]:List (Str × Value)).length }:=by
  refine ⟨ok',rfl,I3.bare,Un.kept keep,⟨_,hns1,fun i x v a b c=>?_⟩,fun x c q=>?_,hCn,fun x c q=>I3.freeC x c (hcl1 x c q),fun q hq=>absurd (show q∈([]:List (Addr × Obj)) from hq) (by simp),I3.hok.kept keep,(hσ σ).1⟩
  ·obtain ⟨hf,j,hj,hv⟩:=(hσ σ).2 i x v a b
   have hm:=qaQ hf
   obtain ⟨m,hn,hl⟩:=id I3.loc
   have hk:=hfr _ hm rfl
   have hvis:Vis X.env.scope x:=hk.elim (fun z => .inr (.inl z)) fun z => .inr (.inr z)
   obtain ⟨u,r,lk⟩:=hl j x v hj hv hvis
   refine ⟨u,r,.inr ⟨qar hf,?_⟩⟩
   obtain ⟨c',hc'⟩:=hcl2 x hm
   refine ⟨c',hc',?_⟩
   have hx:=hcl1 x c' hc'
   rcases lk with ⟨kl,_⟩ | ⟨_,c2,e2,o2,ho2,hd2⟩
   ·rcases hk with z | z <;> rw [kl] at z <;> cases z
   ·rw [hx] at e2
    cases e2
    exact ⟨o2,keep _ _ ho2,hd2⟩
  ·obtain ⟨v,o,ho,hd⟩:=I3.cell x c (hcl1 x c q)
   exact ⟨v,o,keep _ _ ho,hd⟩
 have st4:tn 0 h1:=T.keep _ _ _ st3 fun b _ o e=>keep b o e
 have stat:∀ {H':Hp},(∀ b∈fp,H' b=none)->∀ b∈fp,FpOk (qah X scope N cl C s3 H3 fp) [] H' b:=fun hn b hb =>
  ⟨hn b hb,fpC b hb,fun z=>ok'.exfs b hb z,.inl hb,fun x c q=>(hf3 b hb).2.2.2.2.1 x c (hcl1 x c q),fun q hq=>absurd (show q∈([]:List (Addr × Obj)) from hq) (by simp)⟩
 have back:∀ {σ':St} {H':Hp} {s':Shared} {pl:List (Addr × Obj)},Inv (qah X scope N cl C s3 H3 fp) pl σ' H' s'->∀ h',Heap.SameBut C s'.heap h'->Inv X pins σ H' { s' with heap:=h' }:=fun {σ' H' s' pl} J h' hsb=>by
  have I5:Inv X pins σ H' s':=Inv.call' (ch:=fp) I3 J.os J.base J.hok J.bare fun b hb=>⟨(hf3 b hb).2.2.2.1,(hf3 b hb).2.1,(hf3 b hb).2.2.2.2.1,(hf3 b hb).2.2.2.2.2⟩
  refine Inv.turned (it:=C) (t':=s'.toks) I5 (fun b o hb e=>hsb.extBut b o hb e) J.free (fun z=>?_) (.inr ?_) (fun x c q z=>?_) fun q hq z=>?_
  ·exact absurd (show X.env.locals < C by rw [<- hC]; exact I3.lt) (by rw [z]; exact Nat.lt_irrefl _)
  ·rw [<- hC]; exact I3.sz
  ·obtain ⟨v,o,ho,_⟩:=I3.cell x c q
   have:=Heap.lt_size ho
   rw [z,hC] at this
   exact Nat.lt_irrefl _ this
  ·have:=Heap.lt_size (I3.pin q hq).1
   rw [z,hC] at this
   exact Nat.lt_irrefl _ this
 have loop:codeAny (model X.prog X.w) X.A (.compLoop (.ListComp elt [⟨tg,iter,ifs,0⟩] scope pos) 0 (.ref it) (.ref p) (compEnvC scope cl C X.env)) (compPost (model X.prog X.w) X.A X.xe none (EP X pins σ Q) (.ref p) C) { s3 with heap:=h1,toks:=s3.toks + ([]:List (Str × Value)).length }:=by
  refine codeAny_loop rfl (fun n s'=>∃ i ys σ' H',Inv (qah X scope N cl C s3 H3 fp) [] σ' H' s'/\tn i s'.heap/\(∀ b∈fp,H' b=none)/\W i n ys σ' H') (fun n s' hI=>?_) m0 ⟨0,[],σ0 σ,H3,J0,st4,fun b hb=>(hf3 b hb).1,w0⟩
  obtain ⟨i,ys,σ',H',J',st',fr',w'⟩:=hI
  show wpAny _ X.A ((compTurn (.ListComp elt [⟨tg,iter,ifs,0⟩] scope pos) 0 (.ref it) (.ref p) (compEnvC scope cl C X.env)).onRaise (fun x=>do noteFrame x (compEnvC scope cl C X.env); theTreesLotGoes x)) _ _ s'
  refine wpAny_noted ?_
  rw [compTurn_list]
  rcases turn i n ys σ' H' w' with ⟨stop,q⟩ | ⟨go,step⟩
  ·refine wpAny_bind (wpAny_standAt (wpAny_bind (wpAny_mono (T.done (qah X scope N cl C s3 H3 fp) rfl rfl rfl hc i [] s' σ' H' X.xe J' (stat fr') st' stop) (fun r s4 h4=>?_) fun _ _ x=>(hxe _ _ x).elim)))
   obtain ⟨hr,I4⟩:=h4
   subst hr
   refine wpAny_pure ?_
   obtain ⟨m,hn,_⟩:=id I4.loc
   exact ⟨m,hn,fun h' hsb=>⟨.ref p,H',back I4 h' hsb,rfl,q⟩⟩
  ·refine wpAny_bind (wpAny_standAt (wpAny_bind (wpAny_mono (T.item (qah X scope N cl C s3 H3 fp) rfl rfl rfl hc i [] s' σ' H' X.xe J' (stat fr') st' go) (fun r s4 h4=>?_) fun _ _ x=>(hxe _ _ x).elim)))
   obtain ⟨u,hr,h4⟩:=h4
   subst hr
   refine wpAny_bind (wpAny_mono h4 (fun _ s5 h5=>?_) fun _ _ x=>(hxe _ _ x).elim)
   obtain ⟨x,H5,I5,r5,y5,st5,fr5⟩:=h5
   have I5':=I5.pinned (stat fr5) (T.obj _ _ st5)
   refine wpAny_bind (wpAny_mono (hg cl C s3 H3 fp _ s5 σ' H5 x u _ I5' r5 (step x H5 y5)) (fun _ s6 h6=>?_) fun _ _ x=>(hxe _ _ x).elim)
   obtain ⟨σ6,H6,I6,q6⟩:=h6
   have again:∀ {σ7:St} {H7:Hp} {s7:Shared} {ys7:List V},Inv (qah X scope N cl C s3 H3 fp) ([] ++ qcf fp s5.heap) σ7 H7 s7->(∃ m',m' < n/\W (i + 1) m' ys7 σ7 H7) ->
     ∃ m,m < n/\∃ i ys σ' H',Inv (qah X scope N cl C s3 H3 fp) [] σ' H' s7/\tn i s7.heap/\(∀ b∈fp,H' b=none)/\W i m ys σ' H':=fun {σ7 H7 s7 ys7} I7 n7=>by
    obtain ⟨m',hm,w7⟩:=n7
    refine ⟨m',hm,i + 1,ys7,σ7,H7,I7.unpinned,T.keep _ _ _ st5 fun b hb o e=>(I7.pin (b,o) (List.mem_append_right _ (List.mem_append_right _ (qaH hb e)))).1,fun b hb=>?_,w7⟩
    obtain ⟨o,e,d⟩:=T.obj _ _ st5 b hb
    exact (I7.pin (b,o) (List.mem_append_right _ (List.mem_append_right _ (qaH hb e)))).2.1
   refine wpAny_bind (wpAny_mono (ht cl C s3 H3 fp _ s6 σ6 H6 _ I6 q6) (fun ok s7 h7=>?_) fun _ _ x=>(hxe _ _ x).elim)
   obtain ⟨H7,I7,q7⟩:=h7
   cases ok with
   | false =>
    rw [if_neg Bool.false_ne_true] at q7
    exact wpAny_pure ⟨rfl,again I7 q7⟩
   | true =>
    rw [if_pos rfl] at q7
    refine wpAny_bind (wpAny_bind (wpAny_mono (he cl C s3 H3 fp _ s7 σ6 H7 _ I7 q7) (fun y s8 h8=>?_) fun _ _ x=>(hxe _ _ x).elim))
    obtain ⟨v,H8,I8,r8,hz,hH8,w8⟩:=h8
    refine wpAny_bind (wpAny_mono (qbM (X:=qah X scope N cl C s3 H3 fp) _ s8 σ6 H8 (.ref p) [v] (.ref p) [y] (fun x H9=>x = .non/\H9=upd H8 p (.lst (ys ++ [v]))) I8 rfl (.cons r8 .nil) ⟨p,ys,v,rfl,rfl,hH8,hz,rfl,rfl⟩) (fun _ s9 h9=>?_) fun _ _ x=>(hxe _ _ x).elim)
    obtain ⟨z,H9,I9,_,_,e9⟩:=h9
    subst e9
    exact wpAny_pure (wpAny_pure ⟨rfl,again I9 w8⟩)
 exact codeAny_compStart_list loop (T.self X.A 0 _ _ _ st4 loop)
end L2
namespace L2
open MA
end L2
namespace My
open PySem L2 MA
section
variable {P:Program}{w:World}{K:PySem.W.Frag}{mg:Str->Option Value}{base:Heap}
structure Txt (mg:Str->Option Value):Prop where
 z_abs:mg "abs" = none
 z_len:mg "len" = none
 z_isinstance:mg "isinstance" = none
 z_range:mg "range" = none
 z_int:mg "int" = none
 z_bool:mg "bool" = none
 z_tuple:mg "tuple" = none
 z_list:mg "list" = none
 z_all:mg "all" = none
def qcb:Sp:=fun vs H Q _=>∃ a b:Int,vs=[.int a,.int b]/\Q (.int (gI a b)) H
def Shs (H:Hp):List V->List Rat->Prop:=Paired (ShAt H)
theorem Shs.same {H H':Hp}(s:Same H H'):∀ {xs:List V} {qs:List Rat},Shs H xs qs->Shs H' xs qs
 | _,_,.nil => .nil
 | _,_,.cons r t => .cons (r.same s) (Shs.same s t)
theorem Paired.at' {α β:Type}{R:α->β->Prop}:∀ {xs:List α} {ys:List β} {i:Nat} {x:α},Paired R xs ys->xs[i]?=some x->∃ y,ys[i]?=some y/\R x y
 | _,_,_,_,.nil,e=>by simp at e
 | _,_,0,_,.cons r _,e=>by simp at e; subst e; exact ⟨_,rfl,r⟩
 | _,_,i + 1,x,.cons _ t,e=>by
  obtain ⟨u,h1,h2⟩:=Paired.at' (i:=i) (x:=x) t (by simpa using e)
  exact ⟨u,by simpa using h1,h2⟩
theorem qme {ns:List Int}(a:Int)(h:0 < ns.length):∃ z:Int,atI (ns.map V.int) (a % (((ns.map V.int).length:Nat):Int))=some (.int z):=by
 rw [List.length_map]
 have h0:=Int.emod_nonneg a (show ((ns.length:Nat):Int)≠0 by omega)
 have h1:=Int.emod_lt_of_pos a (show 0 < ((ns.length:Nat):Int) by omega)
 have hk:(a % (ns.length:Int)).toNat < ns.length:=by omega
 have ek:a % (ns.length:Int)=(((a % (ns.length:Int)).toNat:Nat):Int):=by omega
 refine ⟨ns[(a % (ns.length:Int)).toNat],?_⟩
 have q:atI (ns.map V.int) (((a % (ns.length:Int)).toNat:Nat):Int)=some (.int ns[(a % (ns.length:Int)).toNat]):=qdq (by rw [List.getElem?_map,List.getElem?_eq_getElem hk] <;> rfl)
 rw [<- ek] at q
 exact q
theorem qkr (ns:List Int)(lo hi:Option Int):∃ ms:List Int,cutV (ns.map V.int) lo hi=ms.map V.int:=by
 unfold cutV
 rw [<- List.map_drop,<- List.map_take]
 exact ⟨_,rfl⟩
def qdD:Sp:=fun vs H Q _=>∃ a b:Int,vs=[.int a,.int b]/\0≤a/\0≤b/\Q (.int (gI a b)) H
def qjB (K:PySem.W.Frag):Sp:=fun vs H Q _=>∃ (a:Addr) (ns:List Int),vs=[.ref a]/\SqL K H a (ns.map V.int)/\ns.length≤63/\∀ H',Q (.bl true) H'
end
end My
namespace L2
open PySem PySem.Spec PyProof.Rows
mutual
inductive qds (H:Hp):V->PyData->Prop
 | non:qds H .non .none
 | bl (b:Bool):qds H (.bl b) (.bool b)
 | int (i:Int):qds H (.int i) (.int i)
 | str (x:Str):qds H (.str x) (.str x)
 | lst {a:Addr} {xs:List V} {ds:List PyData}:H a=some (.lst xs)->qff H xs ds->qds H (.ref a) (.list ds)
 | tup {a:Addr} {xs:List V} {ds:List PyData}:H a=some (.tup xs)->qff H xs ds->qds H (.ref a) (.tuple ds)
 | dict {a:Addr} {kvs:List (Key × V)} {ps:List (PyData × PyData)}:H a=some (.dK kvs)->qff H (kvs.map fun p=>kV p.1) (ps.map (·.1))->qff H (kvs.map (·.2)) (ps.map (·.2))->qds H (.ref a) (.dict ps)
inductive qff (H:Hp):List V->List PyData->Prop
 | nil:qff H [] []
 | cons {x:V} {xs:List V} {d:PyData} {ds:List PyData}:qds H x d->qff H xs ds->qff H (x :: xs) (d :: ds)
end
mutual
def lists:PyData->Bool
 | .list _=>true
 | .tuple xs=>qby xs
 | .dict kvs=>qem kvs
 | _=>false
def qby:List PyData->Bool
 | []=>false
 | x :: xs=>lists x || qby xs
def qem:List (PyData × PyData)->Bool
 | []=>false
 | (k,v) :: r=>lists k || lists v || qem r
end
theorem qdO:∀ ps:List (PyData × PyData),qem ps=false->qby (ps.map (·.1))=false/\qby (ps.map (·.2))=false
 | [],_=>⟨rfl,rfl⟩
 | (k,v) :: r,h=>by
  simp only [qem,Bool.or_eq_false_iff] at h
  obtain ⟨h1,h2⟩:=qdO r h.2
  simp only [List.map_cons,qby,Bool.or_eq_false_iff]
  exact ⟨⟨h.1.1,h1⟩,⟨h.1.2,h2⟩⟩
theorem qfz {P:Program}{w:World}:∀ {es:List DictEntry} {vs:List (Key × Value)} {kvs:List (Key × V)},Pairs (qap P w) es vs->KV kvs vs->Vals (kvs.map fun p=>kV p.1) (es.map (·.key))/\Vals (kvs.map (·.2)) (es.map (·.val)):=by
 intro es vs kvs h
 induction h generalizing kvs with
 | nil =>
  intro r
  cases r
  exact ⟨.nil,.nil⟩
 | @cons e kv es vs h1 h2 _ ih =>
  intro r
  cases r with
  | @cons p _ kvs' _ hp hr =>
   obtain ⟨a,b⟩:=ih hr
   refine ⟨.cons ?_ a,.cons ?_ b⟩
   ·have h1':qeU kv.1 e.key=true:=h1
    rw [<- hp.1] at h1'
    rcases qaC h1' with ⟨i,t,e1,e2⟩ | ⟨x,t,e1,e2⟩
    ·show RelV (kV p.1) e.key
     rw [e1,e2]; exact ⟨t,rfl⟩
    ·show RelV (kV p.1) e.key
     rw [e1,e2]; exact ⟨t,rfl⟩
   ·show RelV p.2 e.val
    rw [h2]; exact hp.2
mutual
theorem qgd {P:Program}{w:World}{H:Hp}{h:Heap}(ok:HOk P w H h):∀ {v:V} {d:PyData} {u:Value},qds H v d->RelV v u->∃ as,Reads h u d as/\(lists d=false->sysModules ∉ as)
 | _,_,_,.non,r=>by cases r; exact ⟨[],.none,fun _=>by simp⟩
 | _,_,_,.bl b,r=>by cases r; exact ⟨[],.bool b,fun _=>by simp⟩
 | _,_,_,.int i,r=>by obtain ⟨t,rfl⟩:=r; exact ⟨[],.int i t,fun _=>by simp⟩
 | _,_,_,.str x,r=>by obtain ⟨t,rfl⟩:=r; exact ⟨[],.str x t,fun _=>by simp⟩
 | _,_,_,.lst (a:=a) (xs:=xs) ha hd,r=>by
  cases r
  obtain ⟨_,its,n,rv,e⟩:=ok a _ ha
  obtain ⟨as,hr,_⟩:=qbi ok hd rv
  exact ⟨a :: as,.list e rfl rfl (by simpa using hr),fun z=>by simp [lists] at z⟩
 | _,_,_,.tup (a:=a) (xs:=xs) ha hd,r=>by
  cases r
  obtain ⟨_,its,rv,o,e,hc,n,hdt,_⟩:=ok a _ ha
  obtain ⟨as,hr,hs⟩:=qbi ok hd rv
  exact ⟨as,.tuple e hc hdt (by simpa using hr),fun z=>hs (by simpa [lists] using z)⟩
 | _,_,_,.dict (a:=a) (kvs:=kvs) (ps:=ps) ha hk hv,r=>by
  cases r
  obtain ⟨_,hm,vs,rv,o,es,ep,e,hx,hdt,_,hp,_⟩:=ok a _ ha
  obtain ⟨rk,rvv⟩:=qfz hp rv
  obtain ⟨as,hr,hs⟩:=qbi ok hk rk
  obtain ⟨bs,hr',hs'⟩:=qbi ok hv rvv
  refine ⟨a :: as ++ bs,.dict e hx.1 hdt hr hr',fun z=>?_⟩
  obtain ⟨z1,z2⟩:=qdO ps (by simpa [lists] using z)
  have hne:a≠sysModules:=by simpa using hm
  simp only [List.cons_append,List.mem_cons,List.mem_append,not_or]
  exact ⟨fun q=>hne q.symm,hs z1,hs' z2⟩
theorem qbi {P:Program}{w:World}{H:Hp}{h:Heap}(ok:HOk P w H h):∀ {vs:List V} {ds:List PyData} {us:List Value},qff H vs ds->Vals vs us->∃ as,ReadsAll h us ds as/\(qby ds=false->sysModules ∉ as)
 | _,_,_,.nil,r=>by cases r; exact ⟨[],.nil,fun _=>by simp⟩
 | _,_,_,.cons hx hd,r=>by
  cases r with
  | cons r1 r2 =>
   obtain ⟨as,h1,s1⟩:=qgd ok hx r1
   obtain ⟨bs,h2,s2⟩:=qbi ok hd r2
   refine ⟨as ++ bs,.cons h1 h2,fun z=>?_⟩
   simp only [qby,Bool.or_eq_false_iff] at z
   simp only [List.mem_append,not_or]
   exact ⟨s1 z.1,s2 z.2⟩
end
theorem qjc:bootBuiltins "repr" = some (.builtin "repr"):=by decide +kernel
section
variable {X:Cx}
def rRepr:List V->Hp->VK->Prop:=fun xs H Q=>∃ v d,xs=[v]/\qds H v d/\d.showable=true/\(d.hasDict=true->lists d=false)/\d.depth≤20/\d.shown.length≤sizeLine/\Q (.str d.shown) H
theorem qe7 {k:Nat}(hr:Room k X.A):qb5 X (.builtin "repr") rRepr:=by
 intro pins s σ H xs us Q I r h
 obtain ⟨v,d,rfl,hd,hs,hl,hdp,hz,q⟩:=h
 obtain ⟨u,rfl,ru⟩:=vals1 r
 obtain ⟨as,rd,hsm⟩:=qgd I.hok hd ru
 have fin:∀ h' u tk,(∀ b o,s.heap.get? b=some o->h'.get? b=some o)->EP X pins σ Q (.str d.shown u) { s with heap:=h',toks:=tk }:=fun h' u tk hk =>
  ⟨.str d.shown,H,I.kept (t':=tk) hk,⟨u,rfl⟩,q⟩
 cases u with
 | ref a=>exact repr_of_reads' rd hs (fun z=>hsm (hl z)) hr.gd (by have:=hr.un; omega) (fun _ _ e=>e) fin hz
 | none=>cases rd; rw [PyData.shown_none] at fin; exact PySem.P.repr_of_none (fin _ _ _ fun _ _ e=>e)
 | bool b=>cases rd; rw [PyData.shown_bool] at fin; exact PySem.P.repr_of_bool (fin _ _ _ fun _ _ e=>e)
 | int i t=>cases rd; rw [PyData.shown_int] at fin; exact PySem.P.repr_of_int (by simpa [PyData.showable] using hs) (fin _ _ _ fun _ _ e=>e)
 | str x t=>cases rd; rw [PyData.shown_str] at fin hz; exact PySem.P.repr_of_str (fin _ _ _ fun _ _ e=>e) hz
 | _=>cases rd
end
end L2
namespace L2
open PySem PySem.Spec PyProof.Rows MA
structure Good (d:PyData):Prop where
 sh:d.showable=true
 ld:d.hasDict=true->lists d=false
 dp:d.depth≤20
 ln:d.shown.length≤sizeLine
end L2
namespace L2
open PySem
theorem qe8:bootBuiltins "sum" = some (.builtin "sum"):=by decide +kernel
theorem qco:bootBuiltins "sorted" = some (.builtin "sorted"):=by decide +kernel
theorem qk7:bootBuiltins "min" = some (.builtin "min"):=by decide +kernel
end L2
namespace My
open PySem L2 MA
structure Txt2 (mg:Str->Option Value):Prop extends Txt mg where
 z_str:mg "str" = none
 z_repr:mg "repr" = none
 z_dict:mg "dict" = none
 z_sum:mg "sum" = none
 z_sorted:mg "sorted" = none
 z_max:mg "max" = none
 z_min:mg "min" = none
 z_any:mg "any" = none
 z_enumerate:mg "enumerate" = none
 z_zip:mg "zip" = none
 z_set:mg "set" = none
 z_reversed:mg "reversed" = none
 z_ValueError:mg "ValueError" = none
end My
namespace L2
open PySem PySem.Spec PyProof.Rows
def qfF:Expr->Bool
 | .Starred _ _=>false
 | _=>true
theorem qhJ {e:Expr}{es:List Expr}{env:Env}(h:qfF e=true):starEach (e :: es) env=(false,eval e env) :: starEach es env:=by
 cases e <;> first | rfl | exact absurd h (by simp [qfF])
section
variable {X:Cx}{e:Expr}{es:List Expr}{te:TE}{t:TA}{pos:Pos}
theorem pC (ha:PE X e te)(hr:PA X es t)(hn:qfF e=true:=by rfl):PA X (e :: es) (qlg te t):=qlA ha hr (qhJ hn)
end
end L2
namespace L2
end L2
namespace L2
end L2
namespace L2
open PySem PySem.Spec PyProof.Rows
theorem qi1 {X:Cx}{elt tg iter:Expr}{ifs:List Expr}{scope:Scope}{pos pos2:Pos}{wi:TI}{g:TG}{tc:TT}{te:TE}{N:List Str}{σ0:St->St}{pins:List (Addr × Obj)}{s:Shared}{σ:St}{H:Hp}{Q:VK}{use:Option (Value->Sem Unit)}{QQ:Value->Shared->Prop}
  (hc:X.calm=true) (hxe:∀ e s,X.xe e s->False) (hcell:∀ y∈scope.names,y.2 ≠ .cell) (hkind:scope.kind = .function) (hnames:∀ y∈scope.names,y.2 = .local->scope.names.lookup y.1=some .local)
  (hfr:∀ y∈scope.names,y.2 = .free->X.env.kindOf y.1=some .cell\/X.env.kindOf y.1=some .free) (hσ:Sees X scope N σ0)
  (hi:PI X tg iter wi)
  (hg:∀ cl C s H ex,PG (qah X scope N cl C s H ex) tg g) (ht:∀ cl C s H ex,PTs (qah X scope N cl C s H ex) ifs tc) (he:∀ cl C s H ex,PE (qah X scope N cl C s H ex) elt te)
  (hs:∀ x,foldedSetIterable iter X.env x=pure x) (I:Inv X pins σ H s) (h:qjv σ0 wi g tc te σ H Q)
  (hend:∀ (p C:Addr) (H':Hp) (s':Shared) (m:Str->Option Value) (f:Flow),Inv X pins σ H' s'->FpOk X pins H' C->s'.heap.Ns C m->(∀ h',Heap.SameBut C s'.heap h'->Inv X pins σ H' { s' with heap:=h' })->Q (.ref p) H' ->
    compPost (model X.prog X.w) X.A X.xe use QQ (.ref p) C (.ok f) s') :
  wpAny (model X.prog X.w) X.A (comprehension (.ListComp elt [⟨tg,iter,ifs,0⟩] scope pos) scope X.env pos2 (newList []) false (eval iter X.env) use) QQ X.xe s:=by
 obtain ⟨cl,hclos,hcl1,hcl2⟩:=qbu (env:=X.env) (scope:=scope) fun y hy hf=>I.ok.has y.1 (hfr y hy hf)
 refine wpAny_comprehension_free (use:=use) rfl hs hclos hkind hnames (thn (hi pins s σ H _ I h) fun v s1 h1=>thn h1 fun itv s2 h2=>?_)
 obtain ⟨it,fp,tn,J,H2,e,I2,T,st2,f2,h3⟩:=h2
 subst e
 have hpn:H2 s2.heap.objs.size=none:=I2.hok.fresh (Nat.le_refl _)
 obtain ⟨W,⟨m0,w0⟩,turn⟩:=h3 _ hpn
 refine wpAny_newObj_type ?_
 generalize hp:s2.heap.objs.size=p at *
 have I3:Inv X pins σ (upd H2 p (.lst [])) { s2 with heap:=s2.heap.push { cls := .type "list",dict:=none,data := .seq ([]:List Value).toArray } }:=by
  refine I2.laid (a:=p) (o := .lst []) (t':=s2.toks) (fun b u q=>Heap.get?_push_of_some _ q) (Nat.le_of_eq hp) ⟨Nat.zero_le _,[],0,.nil,?_⟩
  rw [<- hp]
  exact Heap.get?_push_size _ rfl
 have hf3:∀ b∈fp,FpOk X pins (upd H2 p (.lst [])) b:=fun b hb=>by
  obtain ⟨o,ho,_⟩:=T.obj _ _ st2 b hb
  have:b≠p:=by rw [<- hp]; exact Nat.ne_of_lt (Heap.lt_size ho)
  exact ⟨by rw [uE this]; exact (f2 b hb).1,(f2 b hb).2⟩
 generalize hs3:({ s2 with heap:=s2.heap.push { cls := .type "list",dict:=none,data := .seq ([]:List Value).toArray } }:Shared)=s3 at *
 have st3:tn 0 s3.heap:=by rw [<- hs3]; exact T.keep _ _ _ st2 fun b _ o e=>Heap.get?_push_of_some _ e
 generalize hH3:upd H2 p (.lst [])=H3 at *
 refine wpAny_newFunctionEnv hcell (by intro y hy; simp at hy) (fun h1 hns1 hsb1=>?_) hkind
 generalize hC:s3.heap.objs.size=C at *
 have keep:∀ b u,s3.heap.get? b=some u->h1.get? b=some u:=fun b u q =>
  hsb1.extBut b u (by rw [<- hC]; exact Nat.ne_of_lt (Heap.lt_size q)) (Heap.get?_push_of_some _ q)
 have fpC:∀ b∈fp,b≠C:=fun b hb=>by
  obtain ⟨o,ho,_⟩:=T.obj _ _ st3 b hb
  rw [<- hC]; exact Nat.ne_of_lt (Heap.lt_size ho)
 have hCn:H3 C=none:=I3.hok.fresh (Nat.le_of_eq hC)
 have ok':(qah X scope N cl C s3 H3 fp).Ok:=by
  refine ⟨I3.mod,hkind,I3.ok.glob,I3.ok.blt,Nat.le_of_eq hC,fun x y c a b=>I3.ok.inj x y c (hcl1 x c a) (hcl1 y c b),fun x hx=>?_,fun _ _ z=>Bool.noConfusion (show false=true from z),I3.ok.hd,I3.ok.frames,.inl rfl,fun b hb=>⟨fpC b hb,fun x c q=>(hf3 b hb).2.2.2.2.1 x c (hcl1 x c q)⟩,
   I3.bs,Nat.le_trans I3.ok.bsz I3.sz,fun b o e hb=>?_,fun b hb z=>?_,I3.stack,I3.stkFree⟩
  ·have hx':(relabel scope X.env).names.lookup x=some .cell\/(relabel scope X.env).names.lookup x=some .free:=hx
   rcases hx' with z | z
   ·rcases qaj z with y | ⟨_,y⟩
    ·exact absurd rfl (hcell _ y)
    ·exact hcl2 x y
   ·rcases qaj z with y | ⟨y,_⟩
    ·exact hcl2 x y
    ·cases y
  ·rcases (hf3 b hb).2.2.2.1 with z | z
   ·exact I3.ok.noex b o e z
   ·exact absurd (Nat.lt_of_lt_of_le (Heap.lt_size e) (Nat.le_trans I3.ok.bsz z)) (Nat.lt_irrefl _)
  ·rcases List.mem_cons.mp (I3.stkSub b z) with q | q
   ·exact (hf3 b hb).2.1 q
   ·exact (hf3 b hb).2.2.1 q
 have J0:Inv (qah X scope N cl C s3 H3 fp) [] (σ0 σ) H3 { s3 with heap:=h1,toks:=s3.toks + ([]:List (Str × Value)).length }:=by
  refine ⟨ok',rfl,I3.bare,Un.kept keep,⟨_,hns1,fun i x v a b c=>?_⟩,fun x c q=>?_,hCn,fun x c q=>I3.freeC x c (hcl1 x c q),fun q hq=>absurd (show q∈([]:List (Addr × Obj)) from hq) (by simp),I3.hok.kept keep,(hσ σ).1⟩
  ·obtain ⟨hf,j,hj,hv⟩:=(hσ σ).2 i x v a b
   have hm:=qaQ hf
   obtain ⟨m,hn,hl⟩:=id I3.loc
   have hk:=hfr _ hm rfl
   have hvis:Vis X.env.scope x:=hk.elim (fun z => .inr (.inl z)) fun z => .inr (.inr z)
   obtain ⟨u,r,lk⟩:=hl j x v hj hv hvis
   refine ⟨u,r,.inr ⟨qar hf,?_⟩⟩
   obtain ⟨c',hc'⟩:=hcl2 x hm
   refine ⟨c',hc',?_⟩
   have hx:=hcl1 x c' hc'
   rcases lk with ⟨kl,_⟩ | ⟨_,c2,e2,o2,ho2,hd2⟩
   ·rcases hk with z | z <;> rw [kl] at z <;> cases z
   ·rw [hx] at e2
    cases e2
    exact ⟨o2,keep _ _ ho2,hd2⟩
  ·obtain ⟨v,o,ho,hd⟩:=I3.cell x c (hcl1 x c q)
   exact ⟨v,o,keep _ _ ho,hd⟩
 have st4:tn 0 h1:=T.keep _ _ _ st3 fun b _ o e=>keep b o e
 have stat:∀ {H':Hp},(∀ b∈fp,H' b=none)->∀ b∈fp,FpOk (qah X scope N cl C s3 H3 fp) [] H' b:=fun hn b hb =>
  ⟨hn b hb,fpC b hb,fun z=>ok'.exfs b hb z,.inl hb,fun x c q=>(hf3 b hb).2.2.2.2.1 x c (hcl1 x c q),fun q hq=>absurd (show q∈([]:List (Addr × Obj)) from hq) (by simp)⟩
 have back:∀ {σ':St} {H':Hp} {s':Shared} {pl:List (Addr × Obj)},Inv (qah X scope N cl C s3 H3 fp) pl σ' H' s'->∀ h',Heap.SameBut C s'.heap h'->Inv X pins σ H' { s' with heap:=h' }:=fun {σ' H' s' pl} J h' hsb=>by
  have I5:Inv X pins σ H' s':=Inv.call' (ch:=fp) I3 J.os J.base J.hok J.bare fun b hb=>⟨(hf3 b hb).2.2.2.1,(hf3 b hb).2.1,(hf3 b hb).2.2.2.2.1,(hf3 b hb).2.2.2.2.2⟩
  refine Inv.turned (it:=C) (t':=s'.toks) I5 (fun b o hb e=>hsb.extBut b o hb e) J.free (fun z=>?_) (.inr ?_) (fun x c q z=>?_) fun q hq z=>?_
  ·exact absurd (show X.env.locals < C by rw [<- hC]; exact I3.lt) (by rw [z]; exact Nat.lt_irrefl _)
  ·rw [<- hC]; exact I3.sz
  ·obtain ⟨v,o,ho,_⟩:=I3.cell x c q
   have:=Heap.lt_size ho
   rw [z,hC] at this
   exact Nat.lt_irrefl _ this
  ·have:=Heap.lt_size (I3.pin q hq).1
   rw [z,hC] at this
   exact Nat.lt_irrefl _ this
 have loop:codeAny (model X.prog X.w) X.A (.compLoop (.ListComp elt [⟨tg,iter,ifs,0⟩] scope pos) 0 (.ref it) (.ref p) (compEnvC scope cl C X.env)) (compPost (model X.prog X.w) X.A X.xe use QQ (.ref p) C) { s3 with heap:=h1,toks:=s3.toks + ([]:List (Str × Value)).length }:=by
  refine codeAny_loop rfl (fun n s'=>∃ i ys σ' H',Inv (qah X scope N cl C s3 H3 fp) [] σ' H' s'/\tn i s'.heap/\(∀ b∈fp,H' b=none)/\W i n ys σ' H') (fun n s' hI=>?_) m0 ⟨0,[],σ0 σ,H3,J0,st4,fun b hb=>(hf3 b hb).1,w0⟩
  obtain ⟨i,ys,σ',H',J',st',fr',w'⟩:=hI
  show wpAny _ X.A ((compTurn (.ListComp elt [⟨tg,iter,ifs,0⟩] scope pos) 0 (.ref it) (.ref p) (compEnvC scope cl C X.env)).onRaise (fun x=>do noteFrame x (compEnvC scope cl C X.env); theTreesLotGoes x)) _ _ s'
  refine wpAny_noted ?_
  rw [compTurn_list]
  rcases turn i n ys σ' H' w' with ⟨stop,q⟩ | ⟨go,step⟩
  ·refine wpAny_bind (wpAny_standAt (wpAny_bind (wpAny_mono (T.done (qah X scope N cl C s3 H3 fp) rfl rfl rfl hc i [] s' σ' H' X.xe J' (stat fr') st' stop) (fun r s4 h4=>?_) fun _ _ x=>(hxe _ _ x).elim)))
   obtain ⟨hr,I4⟩:=h4
   subst hr
   refine wpAny_pure ?_
   obtain ⟨m,hn,_⟩:=id I4.loc
   have I5:Inv X pins σ H' s4:=Inv.call' (ch:=fp) I3 I4.os I4.base I4.hok I4.bare fun b hb=>⟨(hf3 b hb).2.2.2.1,(hf3 b hb).2.1,(hf3 b hb).2.2.2.2.1,(hf3 b hb).2.2.2.2.2⟩
   exact hend p C H' s4 m _ I5 (I3.fpOk (Nat.le_of_eq hC) I4.free) hn (fun h' hsb=>back I4 h' hsb) q
  ·refine wpAny_bind (wpAny_standAt (wpAny_bind (wpAny_mono (T.item (qah X scope N cl C s3 H3 fp) rfl rfl rfl hc i [] s' σ' H' X.xe J' (stat fr') st' go) (fun r s4 h4=>?_) fun _ _ x=>(hxe _ _ x).elim)))
   obtain ⟨u,hr,h4⟩:=h4
   subst hr
   refine wpAny_bind (wpAny_mono h4 (fun _ s5 h5=>?_) fun _ _ x=>(hxe _ _ x).elim)
   obtain ⟨x,H5,I5,r5,y5,st5,fr5⟩:=h5
   have I5':=I5.pinned (stat fr5) (T.obj _ _ st5)
   refine wpAny_bind (wpAny_mono (hg cl C s3 H3 fp _ s5 σ' H5 x u _ I5' r5 (step x H5 y5)) (fun _ s6 h6=>?_) fun _ _ x=>(hxe _ _ x).elim)
   obtain ⟨σ6,H6,I6,q6⟩:=h6
   have again:∀ {σ7:St} {H7:Hp} {s7:Shared} {ys7:List V},Inv (qah X scope N cl C s3 H3 fp) ([] ++ qcf fp s5.heap) σ7 H7 s7->(∃ m',m' < n/\W (i + 1) m' ys7 σ7 H7) ->
     ∃ m,m < n/\∃ i ys σ' H',Inv (qah X scope N cl C s3 H3 fp) [] σ' H' s7/\tn i s7.heap/\(∀ b∈fp,H' b=none)/\W i m ys σ' H':=fun {σ7 H7 s7 ys7} I7 n7=>by
    obtain ⟨m',hm,w7⟩:=n7
    refine ⟨m',hm,i + 1,ys7,σ7,H7,I7.unpinned,T.keep _ _ _ st5 fun b hb o e=>(I7.pin (b,o) (List.mem_append_right _ (List.mem_append_right _ (qaH hb e)))).1,fun b hb=>?_,w7⟩
    obtain ⟨o,e,d⟩:=T.obj _ _ st5 b hb
    exact (I7.pin (b,o) (List.mem_append_right _ (List.mem_append_right _ (qaH hb e)))).2.1
   refine wpAny_bind (wpAny_mono (ht cl C s3 H3 fp _ s6 σ6 H6 _ I6 q6) (fun ok s7 h7=>?_) fun _ _ x=>(hxe _ _ x).elim)
   obtain ⟨H7,I7,q7⟩:=h7
   cases ok with
   | false =>
    rw [if_neg Bool.false_ne_true] at q7
    exact wpAny_pure ⟨rfl,again I7 q7⟩
   | true =>
    rw [if_pos rfl] at q7
    refine wpAny_bind (wpAny_bind (wpAny_mono (he cl C s3 H3 fp _ s7 σ6 H7 _ I7 q7) (fun y s8 h8=>?_) fun _ _ x=>(hxe _ _ x).elim))
    obtain ⟨v,H8,I8,r8,hz,hH8,w8⟩:=h8
    refine wpAny_bind (wpAny_mono (qbM (X:=qah X scope N cl C s3 H3 fp) _ s8 σ6 H8 (.ref p) [v] (.ref p) [y] (fun x H9=>x = .non/\H9=upd H8 p (.lst (ys ++ [v]))) I8 rfl (.cons r8 .nil) ⟨p,ys,v,rfl,rfl,hH8,hz,rfl,rfl⟩) (fun _ s9 h9=>?_) fun _ _ x=>(hxe _ _ x).elim)
    obtain ⟨z,H9,I9,_,_,e9⟩:=h9
    subst e9
    exact wpAny_pure (wpAny_pure ⟨rfl,again I9 w8⟩)
 exact codeAny_compStart_list loop (T.self X.A 0 _ _ _ st4 loop)
theorem qlp {X:Cx}{elt tg iter:Expr}{ifs:List Expr}{scope:Scope}{pos spos py:Pos}{wi:TI}{g:TG}{tc:TT}{te:TE}{N:List Str}{σ0:St->St}{i:Nat}{y:Str}
  (hN:X.N.Nodup) (hiy:X.N[i]?=some y) (hy:Loc X.env.scope y)
  (hc:X.calm=true) (hxe:∀ e s,X.xe e s->False) (hcell:∀ y∈scope.names,y.2 ≠ .cell) (hkind:scope.kind = .function) (hnames:∀ y∈scope.names,y.2 = .local->scope.names.lookup y.1=some .local)
  (hfr:∀ y∈scope.names,y.2 = .free->X.env.kindOf y.1=some .cell\/X.env.kindOf y.1=some .free) (hσ:Sees X scope N σ0)
  (hi:PI X tg iter wi)
  (hg:∀ cl C s H ex,PG (qah X scope N cl C s H ex) tg g) (ht:∀ cl C s H ex,PTs (qah X scope N cl C s H ex) ifs tc) (he:∀ cl C s H ex,PE (qah X scope N cl C s H ex) elt te)
  (hs:∀ x,foldedSetIterable iter X.env x=pure x:=by intro _; rfl) (hsw:swapsWith (.ListComp elt [⟨tg,iter,ifs,0⟩] scope pos) (some (.Name y py)) spos.line X.env=pure true:=by rfl)
  (hf:X.fn y=true\/X.env.scope.names.lookup y=some .local:=by first | exact .inl rfl | exact .inr rfl | assumption) :
  PS X (.Assign [.Name y py] (.ListComp elt [⟨tg,iter,ifs,0⟩] scope pos) spos) (tAsg (qjv σ0 wi g tc te) (qcK i)):=by
 intro pins s σ H D I h
 rw [exec_Assign_Name_used _ _ _ _ hsw]
 refine wpAny_bind (wpAny_standAt (wpAny_bind ?_))
 show wpAny _ X.A (do let _ <- comprehension (.ListComp elt [⟨tg,iter,ifs,0⟩] scope pos) scope X.env _ (newList []) false (eval iter X.env) (some (assign (.Name y py) X.env))) _ _ s
 refine wpAny_bind (wpAny_mono (qi1 (use:=some (assign (.Name y py) X.env)) (QQ:=fun _ s'=>SP X pins D .next s') hc hxe hcell hkind hnames hfr hσ hi hg ht he hs I h ?_) (fun _ s' hq=>wpAny_pure (wpAny_pure hq)) fun _ _ e=>e)
 intro p C H' s' m f I5 fC hn back q
 show wpAny _ X.A (assign (.Name y py) X.env (.ref p)) _ _ _
 have hnC:=id hn
 obtain ⟨o,es,ep,ho,hd,_⟩:=hnC
 have Ip:=I5.pinned (fp:=[C]) (fun b hb=>by rw [List.mem_singleton.mp hb]; exact fC) (fun b hb=>⟨o,by rw [List.mem_singleton.mp hb]; exact ho,fun v z=>by rw [hd] at z; cases z⟩)
 refine wpAny_mono (pG (pos:=py) hN hiy hy hf (pins ++ qcf [C] s'.heap) s' σ H' (.ref p) (.ref p) _ Ip rfl q) (fun _ s2 h2=>?_) fun _ _ e=>e
 obtain ⟨σ2,H2,I2,q2⟩:=h2
 have hp2:=I2.pin (C,o) (List.mem_append_right _ (List.mem_append_right _ (qaH (by simp) ho)))
 refine ⟨m,hn.at' (fun o' e=>?_),fun h' hsb=>⟨σ2,H2,?_,q2⟩⟩
 ·rw [ho] at e; cases e; exact hp2.1
 ·exact Inv.turned (it:=C) (t':=s2.toks) I2.unpinned (fun b o hb e=>hsb.extBut b o hb e) hp2.2.1 hp2.2.2.1 fC.2.2.2.1 fC.2.2.2.2.1 fC.2.2.2.2.2
section
variable {X:Cx}{e:Expr}{te:TE}{p2 p3 p4 pos:Pos}{k1:Nat}
def tRevL (K:PySem.W.Frag)(te:TE):TE:=fun σ H Q=>te σ H fun x H1=>∃ a xs,x = .ref a/\SqL K H1 a xs/\∀ p,H1 p=none->Q (.ref p) (upd H1 p (.lst xs.reverse))
theorem qlu {kk:_}(he:PE X e te):PE X (.Subscript e (.Slice none none (some (.UnaryOp .USub (.Constant (.int 1) kk p3) p4)) p2) pos) (tRevL X.K te):=by
 intro pins s σ H Q I h
 refine Subscript_ (thn (he pins s σ H _ I h) fun v s1 ⟨x,H1,I1,r1,q1⟩=>?_)
 obtain ⟨a,xs,rfl,hx,q⟩:=q1
 have hst:PO X (some (.UnaryOp .USub (.Constant (.int 1) kk p3) p4)) (qmp (tUn (rU fun i => .int (-i)) (tC (.int 1)))):=qcs (qls qht pI)
 refine wpAny_Slice ?_
 rw [evalPart_none]
 refine wpAny_pure (wpAny_pure ?_)
 refine thn (hst pins s1 σ H1 (fun st H2=>st=some (-1)/\H2=H1) I1 ?_) fun vk s2 h2=>?_
 ·exact ⟨_,rfl,_,rfl,rfl,rfl⟩
 obtain ⟨st,H2,I2,pk,rfl,rfl⟩:=h2
 have I4:Inv X pins σ H2 { s2 with heap:=s2.heap.push { cls := .type "slice",data := .fields #[.none,.none,vk] } }:=I2.kept (t':=s2.toks) fun b ob q=>Heap.get?_push_of_some _ q
 cases r1
 obtain ⟨its,r,ht,hz⟩:=I4.list hx
 have hlen:=r.length
 refine tail_any (T := "list") (ops:=[.ref a,.ref s2.heap.objs.size]) ht.isList.typeIs slot_list_getitem.lookup ?_ (by with_unfolding_all rfl)
 refine wpAny_getItem_list_slice ht.isList (Heap.IsSliceOf.new ..) .none .none pk (by decide) ?_ (by rw [List.size_toArray] <;> omega)
 rw [PySem.W.krv_pick]
 refine ⟨.ref _,_,I4.laid (t':=s2.toks) (o := .lst xs.reverse) (fun b ob q=>Heap.get?_push_of_some _ q) (Nat.le_refl _) ?_,rfl,q _ (I4.hok.fresh (Nat.le_refl _))⟩
 exact ⟨by rw [List.length_reverse]; exact hz,_,0,r.reverse,Heap.get?_push_size _ rfl⟩
end
end L2
namespace L2
open PySem PySem.Spec PyProof.Rows MA
theorem Sees.frees {X:Cx}{scope:Scope}(ks:List Str)(fs:List (Str × Nat))(h:∀ p∈fs,scope.names.lookup p.1=some .free/\X.N[p.2]?=some p.1) :
  Sees X scope (ks ++ fs.map (·.1)) (fun σ=>ks.map (fun _=>none) ++ fs.map fun p=>σ.getD p.2 none):=by
 intro σ
 refine ⟨by simp,fun i x v h1 h2=>?_⟩
 by_cases hi:i < ks.length
 ·rw [List.getElem?_append_left (by simpa using hi),List.getElem?_map] at h2
  cases e:ks[i]? with
  | none=>rw [e] at h2; cases h2
  | some y=>rw [e] at h2; cases h2
 ·rw [List.getElem?_append_right (by omega),List.getElem?_map] at h1
  rw [List.getElem?_append_right (by simp; omega),List.getElem?_map,List.length_map] at h2
  cases e:fs[i - ks.length]? with
  | none=>rw [e] at h1; cases h1
  | some p =>
   rw [e] at h1 h2
   cases h1
   obtain ⟨a,b⟩:=h p (List.mem_of_getElem? e)
   refine ⟨a,p.2,b,?_⟩
   have h3:σ.getD p.2 none=some v:=by simpa using h2
   rw [List.getD_eq_getElem?_getD] at h3
   cases z:σ[p.2]? with
   | none=>rw [z] at h3; cases h3
   | some u=>rw [z] at h3; exact congrArg some h3
theorem qbD {n:Nat}{lo:Int}{te:TE}{H:Hp}{R:Addr->Hp->Prop}{fs:St}(Pv:Addr->Nat->List V->Hp->Prop)(hn:n≤100000)(hp0:∀ p,H p=none->Pv p 0 [] (upd H p (.lst [])))
  (hte:∀ p i ys H',H p=none->i < n->ys.length=i->Pv p i ys H'->H' p=some (.lst ys)->∀ Q':VK,(∀ v H'',H'' p=some (.lst ys)->Pv p (i + 1) (ys ++ [v]) (upd H'' p (.lst (ys ++ [v])))->Q' v H'')->te (some (.int (lo + i)) :: fs) H' Q')
  (q:∀ p ys H',H p=none->Pv p n ys H'->H' p=some (.lst ys)->ys.length=n->R p H') :
  ∀ p,H p=none->∃ W:Nat->Nat->List V->St->Hp->Prop,(∃ m,W 0 m [] (none :: fs) (upd H p (.lst [])))/\∀ i m ys σ' H',W i m ys σ' H' ->
   ((Itr lo n).stop i H'/\R p H')\/((Itr lo n).go i H'/\∀ x H2,(Itr lo n).yld i H' x H2->qcK 0 x σ' H2 fun σ2 H3=>tTT σ2 H3 fun b H4=>if b=true then te σ2 H4 fun v H5=>ys.length < sizeLine/\H5 p=some (.lst ys)/\(∃ m',m' < m/\W (i + 1) m' (ys ++ [v]) σ2 (upd H5 p (.lst (ys ++ [v]))))
    else ∃ m',m' < m/\W (i + 1) m' ys σ2 H4):=by
 intro p hp
 refine ⟨fun i m ys σ' H'=>m=n - i/\i≤n/\ys.length=i/\Pv p i ys H'/\H' p=some (.lst ys)/\∃ o,σ'=o :: fs,⟨n,by simp,Nat.zero_le _,rfl,hp0 p hp,uS,_,rfl⟩,?_⟩
 rintro i m ys σ' H' ⟨rfl,hi,hl,pv,hp',o,rfl⟩
 by_cases hlt:i < n
 ·refine .inr ⟨hlt,fun x H2 hy=>?_⟩
  obtain ⟨rfl,rfl⟩:=hy
  change te (some (.int (lo + i)) :: fs) H2 _
  refine hte p i ys H2 hp hlt hl pv hp' _ fun v H5 h5 pv5=>⟨?_,h5,n - (i + 1),by omega,rfl,hlt,by simp [hl],pv5,uS,_,rfl⟩
  rw [hl,sizeLine_eq]; omega
 ·have e:i=n:=by omega
  subst e
  exact .inl ⟨Nat.le_refl _,q p ys H' hp pv hp' hl⟩
end L2
namespace L2
open PySem
theorem qaK {C:Str × Nat->Prop}:∀ p∈([]:List (Str × Nat)),C p:=fun _ h=>nomatch h
theorem qal {C:Str × Nat->Prop}{a:Str × Nat}{l:List (Str × Nat)}(h:C a)(t:∀ p∈l,C p):∀ p∈a :: l,C p:=fun p hp=>(List.mem_cons.mp hp).elim (fun e=>e ▸ h) (t p)
theorem qaJ {scope:Scope}{env:Env}(h:scope.names.all (fun y=>y.2 != .free || env.kindOf y.1 == some .cell || env.kindOf y.1 == some .free)=true):∀ y∈scope.names,y.2 = .free->env.kindOf y.1=some .cell\/env.kindOf y.1=some .free:=by
 intro y hy hf
 have:=List.all_eq_true.mp h y hy
 rw [hf] at this
 simpa using this
end L2
namespace L2
open PySem PySem.Spec PyProof.Rows
section
variable {X:Cx}
def rSum (K:PySem.W.Frag):List V->Hp->VK->Prop:=fun xs H Q=>∃ (l:Addr) (ns:List Int),xs=[.ref l]/\SqL K H l (ns.map V.int)/\Q (.int ns.sum) H
theorem qgL (hc:X.calm=true):qb5 X (.builtin "sum") (rSum X.K):=by
 intro pins s σ H xs us Q I r h
 obtain ⟨l,ns,rfl,hl,q⟩:=h
 obtain ⟨u,rfl,ru⟩:=vals1 r
 cases ru
 obtain ⟨its,rv,p,hz⟩:=I.list hl
 have hi:=intsAre_of rv
 obtain ⟨ys,e⟩:=hi.allInts.items
 have hnum:ns=ys.toList.map (·.1):=by
  have h1:=hi.numsOf
  have h2:=nums_intItems ys
  rw [<- e] at h2
  rw [<- h1,<- h2]
 refine sum_intListG (I.ok.hd hc) (xs:=ys) (by rw [<- e]; exact p.isList) fun h' tk t' hk=>?_
 refine ⟨.int ns.sum,H,I.kept (t':=tk) hk,⟨t',?_⟩,q⟩
 rw [preSum_eq,List.take_of_length_le (by simp),hnum]
end
end L2
namespace L2
open PySem PySem.Spec PyProof.Rows MA
theorem qer {K:PySem.W.Frag}{a:Addr}{xs:List V}{te:TE}{H:Hp}{R:Addr->Hp->Prop}{fs:St}(Pv:Addr->Nat->List V->Hp->Prop)(hn:xs.length≤100000)(hp0:∀ p,H p=none->Pv p 0 [] (upd H p (.lst [])))
  (hl:∀ p i ys H',H p=none->Pv p i ys H'->H' a=some (.lst xs))
  (hte:∀ p i ys H' x,H p=none->xs[i]?=some x->ys.length=i->Pv p i ys H'->H' p=some (.lst ys)->∀ Q':VK,(∀ v H'',H'' p=some (.lst ys)->Pv p (i + 1) (ys ++ [v]) (upd H'' p (.lst (ys ++ [v])))->Q' v H'')->te (some x :: fs) H' Q')
  (q:∀ p ys H',H p=none->Pv p xs.length ys H'->H' p=some (.lst ys)->ys.length=xs.length->R p H') :
  ∀ p,H p=none->∃ W:Nat->Nat->List V->St->Hp->Prop,(∃ m,W 0 m [] (none :: fs) (upd H p (.lst [])))/\∀ i m ys σ' H',W i m ys σ' H' ->
   ((Itl K a).stop i H'/\R p H')\/((Itl K a).go i H'/\∀ x H2,(Itl K a).yld i H' x H2->qcK 0 x σ' H2 fun σ2 H3=>tTT σ2 H3 fun b H4=>if b=true then te σ2 H4 fun v H5=>ys.length < sizeLine/\H5 p=some (.lst ys)/\(∃ m',m' < m/\W (i + 1) m' (ys ++ [v]) σ2 (upd H5 p (.lst (ys ++ [v]))))
    else ∃ m',m' < m/\W (i + 1) m' ys σ2 H4):=by
 intro p hp
 refine ⟨fun i m ys σ' H'=>m=xs.length - i/\i≤xs.length/\ys.length=i/\Pv p i ys H'/\H' p=some (.lst ys)/\∃ o,σ'=o :: fs,⟨xs.length,by simp,Nat.zero_le _,rfl,hp0 p hp,uS,_,rfl⟩,?_⟩
 rintro i m ys σ' H' ⟨rfl,hi,hlen,pv,hp',o,rfl⟩
 have hla:=hl p i ys H' hp pv
 by_cases hlt:i < xs.length
 ·refine .inr ⟨⟨xs,xs[i],SqL.of hla,List.getElem?_eq_getElem hlt⟩,fun x H2 hy=>?_⟩
  obtain ⟨rfl,hx⟩:=hy
  have hx':=hx xs (SqL.of hla)
  change te (some x :: fs) H2 _
  refine hte p i ys H2 x hp hx' hlen pv hp' _ fun v H5 h5 pv5=>⟨?_,h5,xs.length - (i + 1),by omega,rfl,hlt,by simp [hlen],pv5,uS,_,rfl⟩
  rw [hlen,sizeLine_eq]; omega
 ·have e:i=xs.length:=by omega
  subst e
  exact .inl ⟨⟨xs,SqL.of hla,Nat.le_refl _⟩,q p ys H' hp pv hp' hlen⟩
def PrAt (H:Hp)(v:V)(p:Int × Int):Prop:=∃ a,v = .ref a/\H a=some (.tup [.int p.1,.int p.2])
def Prs (H:Hp):List V->List (Int × Int)->Prop:=Paired (PrAt H)
theorem PrAt.same {H H':Hp}{v:V}{p:Int × Int}(s:Same H H')(h:PrAt H v p):PrAt H' v p:=let ⟨a,e,h⟩:=h; ⟨a,e,s _ _ h⟩
theorem PrAt.updL {H:Hp}{l:Addr}{zs:List V}{o:HO}{v:V}{p:Int × Int}(hl:H l=some (.lst zs))(h:PrAt H v p):PrAt (upd H l o) v p:=by
 obtain ⟨a,rfl,ha⟩:=h
 exact ⟨a,rfl,by rw [uE (qdt ha hl (by intro z; cases z))]; exact ha⟩
theorem Prs.same {H H':Hp}(s:Same H H'):∀ {xs:List V} {ps:List (Int × Int)},Prs H xs ps->Prs H' xs ps
 | _,_,.nil => .nil
 | _,_,.cons r t => .cons (r.same s) (Prs.same s t)
theorem Prs.updL {H:Hp}{l:Addr}{zs:List V}{o:HO}(hl:H l=some (.lst zs)):∀ {xs:List V} {ps:List (Int × Int)},Prs H xs ps->Prs (upd H l o) xs ps
 | _,_,.nil => .nil
 | _,_,.cons r t => .cons (r.updL hl) (Prs.updL hl t)
theorem Prs.snoc {H:Hp}{v:V}{p:Int × Int}(h:PrAt H v p):∀ {xs:List V} {ps:List (Int × Int)},Prs H xs ps->Prs H (xs ++ [v]) (ps ++ [p])
 | _,_,.nil => .cons h .nil
 | _,_,.cons r t => .cons r (Prs.snoc h t)
def dp (p:Int × Int):PyData := .tuple [.int p.1,.int p.2]
end L2
namespace L2
open PySem PySem.Spec PyProof.Rows
section
variable {X:Cx}{e:Expr}{t:TA}{p p3 p4 pos:Pos}
def qmo (b:Bool)(t:TA):TE:=fun σ H Q=>t σ H fun vs H1=>∃ (l:Addr) (ns:List Int),vs=[.ref l]/\H1 l=some (.lst (ns.map V.int))/\ns.length < 64/\∀ (q:Addr) (ms:List Int),H1 q=none->ms.Perm ns->Ordered b ms->Q (.ref q) (upd H1 q (.lst (ms.map V.int)))
theorem qg2 {b:Bool}{kk:_}(hg:Gl X "sorted")(hm:X.mg "sorted" = none)(ha:PA X [e] t)
  (he:backTo pos (starEach [e] X.env)=(false,eval e X.env) :: backTo pos (starEach [] X.env):=by rfl) (hpl:(backTo pos (starEach [e] X.env)).any (·.1)=false:=by rfl) :
  PE X (.Call (.Name "sorted" p) [e] [⟨some "reverse",.Constant (.bool b) kk p3,p4⟩] pos) (qmo b t):=by
 intro pins s σ H Q I h
 refine wpAny_Call_Name_kw (qcG I hg hm qco ?_ (by decide) (by decide))
 refine callWith_kw (thn (ha pos pins s σ H _ I h) fun us s1 ⟨vs,H1,I1,r1,q1⟩=>?_) he hpl
 obtain ⟨l,ns,rfl,hl,h64,q⟩:=q1
 obtain ⟨u,rfl,ru⟩:=vals1 r1
 cases ru
 show wpAny _ X.A (evalAll [(do let v <- eval (.Constant (.bool b) kk p3) X.env; standAt pos; pure v)]) _ _ s1
 refine wpAny_evalAll_cons (wpAny_bind (Constant_bool (wpAny_bind (wpAny_standAt (wpAny_pure (wpAny_evalAll_nil ?_))))))
 show wpAny _ X.A (call (.builtin "sorted") [.ref l] [(Str.ofString "reverse",.bool b)]) _ _ _
 obtain ⟨its,rv,pl,hz⟩:=I1.list (SqL.of (K:=X.K) hl)
 have hlen:=rv.length
 rw [List.length_map] at hlen
 refine sorted_ints_rev pl.isList (intsAre_of rv) (by omega) fun out ms a1 a2 a3=>?_
 obtain ⟨ee,he'⟩:=sortedAll_at s1.heap its out
 have hml:ms.length=ns.length:=a2.length_eq
 refine ⟨.ref (s1.heap.objs.size + 1),_,I1.laid (t':=s1.toks) (a:=s1.heap.objs.size + 1) (o := .lst (ms.map V.int)) (fun b o q=>sortedAll_old q) (Nat.le_succ _) ⟨?_,out.toList,ee,qb6 a1,?_⟩,rfl,q _ ms (I1.hok.fresh (Nat.le_succ _)) a2 a3⟩
 ·rw [List.length_map,hml,sizeLine_eq]; omega
 ·rw [he']
end
end L2
namespace L2
open PySem PySem.Spec PyProof.Rows MA
section
variable {X:Cx}
theorem qa2:IxR X (fun x y H Q=>∃ p xs i v,x = .ref p/\y = .int i/\H p=some (.lst xs)/\atI xs i=some v/\Q v H):=by
 intro value slice pins s σ H x y v u Q I rx ry h hs
 obtain ⟨p,xs,i,w',e1,e2,hp,ha,q⟩:=h
 exact qbd value slice pins s σ H x y v u Q I rx ry ⟨p,xs,i,w',e1,e2,SqL.of hp,ha,q⟩ hs
theorem qa9:IxR X (fun x y H Q=>∃ p xs i v,x = .ref p/\y = .int i/\H p=some (.tup xs)/\atI xs i=some v/\Q v H):=by
 intro value slice pins s σ H x y v u Q I rx ry h hs
 obtain ⟨p,xs,i,w',e1,e2,hp,ha,q⟩:=h
 exact qbg value slice pins s σ H x y v u Q I rx ry ⟨p,xs,i,w',e1,e2,SqT.of hp,ha,q⟩ hs
def rSum0:List V->Hp->VK->Prop:=fun xs H Q=>∃ (l:Addr) (ns:List Int),xs=[.ref l]/\H l=some (.lst (ns.map V.int))/\Q (.int ns.sum) H
theorem qcn (hc:X.calm=true):qb5 X (.builtin "sum") rSum0:=by
 intro pins s σ H xs us Q I r h
 obtain ⟨l,ns,e,hl,q⟩:=h
 exact qgL hc pins s σ H xs us Q I r ⟨l,ns,e,SqL.of hl,q⟩
end
section
variable {X:Cx}
def qmz (K:PySem.W.Frag):R2:=fun x y H Q=>∃ a b xs ys,x = .ref a/\y = .ref b/\SqT K H a xs/\SqT K H b ys/\xs.length + ys.length≤sizeLine /\
 (xs=[]->Q (.ref b) H)/\(xs≠[]->ys=[]->Q (.ref a) H)/\(xs≠[]->ys≠[]->∀ p,H p=none->Q (.ref p) (upd H p (.tup (xs ++ ys))))
theorem qjV:OpR X (binaryOp .Add) (qmz X.K):=by
 intro pins s σ H x y v u Q I rx ry h
 obtain ⟨a,b,xs,ys,e1,e2,ha,hb,hz,q0,q1,q2⟩:=h
 by_cases e:xs=[]
 ·subst e1 e2
  subst e
  cases rx
  cases ry
  obtain ⟨its,r1,p1,_⟩:=I.tuple ha
  obtain ⟨its2,r2,p2,_⟩:=I.tuple hb
  cases r1
  obtain ⟨⟨cls,dd,data,sl⟩,ho,hc,n,hd⟩:=id p1
  obtain ⟨⟨cls2,dd2,data2,sl2⟩,ho2,hc2,n2,hd2⟩:=id p2
  simp only at hc hd hc2 hd2
  subst hc hd hc2 hd2
  exact concat_meets ⟨_,ho,rfl⟩ ⟨_,ho2,rfl⟩ noFill_tuple_add seq_tuple_add PySem.F.slot_tuple_add PySem.F.entry_tuple_add (PySem.F.args_tuple_add_2 _ _)
   (tuple_addW0 a b [].toArray its2.toArray n n2 dd dd2 sl sl2 (by simp)) ⟨ho,ho2,⟨.ref b,H,I,rfl,q0 rfl⟩⟩
 ·exact qlF pins s σ H x y v u Q I rx ry ⟨a,b,xs,ys,e1,e2,ha,hb,e,hz,q1 e,q2 e⟩
end
theorem qgV (l:Addr)(items:Array Value)(n:Nat)(dd:Option Addr)(sl:Array (Option Value))(u:Tok) :
  Meets (Builtin.«tuple.__mul__» ⟨[.ref l,.int 1 u],[]⟩) (fun _ R s=>s.heap.get? l=some { cls := .type "tuple",dict:=dd,data := .seq items n,slots:=sl }/\R (.ok (.ret (Value.ref l))) { s with heap:=s.heap,toks:=s.toks }) :=
 .of_wp fun prog w A R s h=>by
  obtain ⟨hp,g,d,tk,os⟩:=s; obtain ⟨hl,h⟩:=h
  have f1:=AutoSeq1.idx_int; have f2:=AutoSeq1.sub_tuple_tuple; have f3:=AutoSeq1.sub_list_list; have f4:=AutoSeq1.sub_tuple_list; have f5:=AutoSeq1.sub_list_tuple
  wp_walk using wpAny_loadPart' hl
  exact ⟨_,rfl,h⟩
theorem qgW (l:Addr)(items:Array Value)(n:Nat)(dd:Option Addr)(sl:Array (Option Value))(u:Tok)(he:¬ items.isEmpty=true) :
  Meets (Builtin.«tuple.__mul__» ⟨[.ref l,.int 0 u],[]⟩) (fun _ R s=>s.heap.get? l=some { cls := .type "tuple",dict:=dd,data := .seq items n,slots:=sl }/\R (.ok (.ret (Value.ref s.heap.objs.size))) { s with heap:=s.heap.push { cls:=Value.type "tuple",data:=Data.seq #[] },toks:=s.toks }) :=
 .of_wp fun prog w A R s h=>by
  obtain ⟨hp,g,d,tk,os⟩:=s; obtain ⟨hl,h⟩:=h
  have f1:=AutoSeq1.idx_int; have f2:=AutoSeq1.sub_tuple_tuple; have f3:=AutoSeq1.sub_list_list; have f4:=AutoSeq1.sub_tuple_list; have f5:=AutoSeq1.sub_list_tuple
  wp_walk using wpAny_loadPart' hl
  exact ⟨_,rfl,h⟩
theorem qgU (l:Addr)(items:Array Value)(n:Nat)(dd:Option Addr)(sl:Array (Option Value))(x:Int)(u:Tok)(he:items.isEmpty=false)(h1:(decide (x < -(2 ^ 63)) || decide (x ≥ 2 ^ 63))=false)(h2:(x == 1)=false)(h3:decide (x≤0)=false)
  (h4:decide ((items.size:Int) * x > (2 ^ 63 - 1) / 8)=false) (h5:Builtin.Tuple.tupleTooMany ((items.size:Int) * x)=false) (h6:((List.replicate x.toNat items).foldl (· ++ ·) #[]).size≤sizeLine) :
  Meets (Builtin.«tuple.__mul__» ⟨[.ref l,.int x u],[]⟩) (fun _ R s=>s.heap.get? l=some { cls := .type "tuple",dict:=dd,data := .seq items n,slots:=sl }/\R (.ok (.ret (Value.ref s.heap.objs.size))) { s with heap:=s.heap.push { cls:=Value.type "tuple",data:=Data.seq ((List.replicate x.toNat items).foldl (· ++ ·) #[]) },toks:=s.toks }) :=
 .of_wp fun prog w A R s h=>by
  obtain ⟨hp,g,d,tk,os⟩:=s; obtain ⟨hl,h⟩:=h
  have f1:=AutoSeq1.idx_int; have f2:=AutoSeq1.sub_tuple_tuple; have f3:=AutoSeq1.sub_list_list; have f4:=AutoSeq1.sub_tuple_list; have f5:=AutoSeq1.sub_list_tuple
  wp_walk using wpAny_loadPart' hl
  refine wpAny_ite_false (by rw [h1]; rfl) ?_
  wp_walk using wpAny_loadPart' hl
  refine wpAny_ite_false h4 ?_
  wp_walk using wpAny_loadPart' hl
  first
  | exact ⟨_,rfl,h⟩
  | (refine wpAny_ite_false (by rw [h5]; rfl) ?_
     wp_walk using wpAny_loadPart' hl
     first
     | exact ⟨_,rfl,h⟩
     | (refine wpAny_ite_false (decide_eq_false (Nat.not_lt.mpr h6)) ?_
        wp_walk using wpAny_loadPart' hl
        exact ⟨_,rfl,h⟩))
  | (refine wpAny_ite_false (decide_eq_false (Nat.not_lt.mpr h6)) ?_
     wp_walk using wpAny_loadPart' hl
     exact ⟨_,rfl,h⟩)
theorem qcJ:fillsNumberSlot (.type "tuple") "mul" = pure false :=
 PySem.fillsNumberSlot_seq (id := "tuple.__mul__") (r:=some (.builtin "tuple.__rmul__")) F.slot_tuple_mul.lookup (by decide +kernel) F.slot_tuple_rmul.lookup (by decide +kernel)
theorem qeI:seqRepeat? (.type "tuple")=pure (some (.builtin "tuple.__mul__")):=by
 unfold seqRepeat?
 rw [PySem.seqSlot_of (T := "tuple") (name := "__mul__") (id := "tuple.__mul__") F.slot_tuple_mul.lookup (by decide +kernel),PySem.seqSlot_of (T := "tuple") (name := "__rmul__") (id := "tuple.__rmul__") F.slot_tuple_rmul.lookup (by decide +kernel)]
 rfl
theorem qdv (a:Int)(t:Tok)(l:Addr)(items:Array Value)(n:Nat)(d:Option Addr)(sl:Array (Option Value)) :
  Meets (Builtin.«int.__rmul__» ⟨[.int a t,.ref l],[]⟩) (fun _ R s=>s.heap.get? l=some { cls := .type "tuple",dict:=d,data := .seq items n,slots:=sl }/\R (.ok (.ret Value.notImplemented)) s) :=
 .of_wp fun prog w A R s h=>by obtain ⟨hp,g,d,tk,os⟩:=s; obtain ⟨hl,h⟩:=h; wp_walk; exact ⟨_,rfl,h⟩
theorem qdT {α:Type}(its:List α):∀ (m:Nat) (acc:List α),List.foldl (fun x1 x2=>x1 ++ x2) acc.toArray (List.replicate m its.toArray)=(acc ++ (List.replicate m its).flatten).toArray
 | 0,acc=>by simp
 | m + 1,acc=>by
  rw [List.replicate_succ,List.foldl_cons,List.replicate_succ,List.flatten_cons]
  have:acc.toArray ++ its.toArray=(acc ++ its).toArray:=by simp
  rw [this,qdT its m (acc ++ its),List.append_assoc]
section
variable {X:Cx}
theorem qlD:OpR X (binaryOp .Mult) (fun x y H Q=>∃ l k xs,x = .ref l/\y = .int k/\H l=some (.tup xs)/\xs≠[]/\0≤k/\k≤1000/\xs.length≤1000 /\
  (k=1->Q (.ref l) H)/\(k≠1->∀ p,H p=none->Q (.ref p) (upd H p (.tup (List.replicate k.toNat xs).flatten)))):=by
 intro pins s σ H x y v u Q I rx ry h
 obtain ⟨l,k,xs,rfl,rfl,hH,hne,k0,k1,hx,q1,q2⟩:=h
 cases rx
 obtain ⟨t,rfl⟩:=ry
 obtain ⟨its,r,p1,hz⟩:=I.tuple (SqT.of (K:=X.K) hH)
 have hlen:=r.length
 have hne':its≠[]:=fun z=>hne (r.nil_iff.mp z)
 obtain ⟨⟨cls,dd,data,sl⟩,ho,hc,n,hd⟩:=id p1
 simp only at hc hd
 subst hc hd
 refine wpAny_binaryOp_repeat_ref (T := "tuple") (U := "int") (by decide) ⟨_,ho,rfl⟩ (fun s'=>typeIs_int s' k t) qcJ F.fills_int_mul F.slot_int_rmul qeI F.slot_int_index.lookup
  (call_meets F.slot_int_rmul (typeIs_int s k t) F.entry_int_rmul (F.args_int_rmul_2 _ _) (qdv k t l its.toArray n dd sl) ⟨ho,rfl,⟨_,ho,rfl⟩,?_⟩)
 have new:∀ zs:List V,∀ us:List Value,Vals zs us->zs.length≤sizeLine->(∀ p,H p=none->Q (.ref p) (upd H p (.tup zs)))->EP X pins σ Q (.ref s.heap.objs.size) { s with heap:=s.heap.push { cls := .type "tuple",data := .seq us.toArray } }:=fun zs us rz hzs hq =>
  ⟨.ref s.heap.objs.size,_,I.laid (t':=s.toks) (o := .tup zs) (fun b ob q=>Heap.get?_push_of_some _ q) (Nat.le_refl _) ⟨hzs,_,rz,qbR.new _ _⟩,rfl,hq _ (I.hok.fresh (Nat.le_refl _))⟩
 by_cases e1:k=1
 ·subst e1
  exact call_meets F.slot_tuple_mul ⟨_,ho,rfl⟩ F.entry_tuple_mul (F.args_tuple_mul_2 _ _) (qgV l its.toArray n dd sl t) ⟨ho,⟨.ref l,H,I,rfl,q1 rfl⟩⟩
 by_cases e0:k=0
 ·subst e0
  exact call_meets F.slot_tuple_mul ⟨_,ho,rfl⟩ F.entry_tuple_mul (F.args_tuple_mul_2 _ _) (qgW l its.toArray n dd sl t (by simpa using hne')) ⟨ho,new [] [] .nil (by simp) (q2 (by decide))⟩
 have hfold:List.foldl (fun x1 x2=>x1 ++ x2) #[] (List.replicate k.toNat its.toArray)=(List.replicate k.toNat its).flatten.toArray:=by
  have:=qdT its k.toNat []
  simpa using this
 have hsz:(its.length:Int) * k≤1000 * 1000:=Int.mul_le_mul (by omega) k1 k0 (by decide)
 have hflat:(List.replicate k.toNat its).flatten.length≤sizeLine:=by
  rw [len_rep]
  have:k.toNat * its.length≤1000 * 1000:=Nat.mul_le_mul (by omega) (by omega)
  rw [sizeLine_eq]; omega
 refine call_meets F.slot_tuple_mul ⟨_,ho,rfl⟩ F.entry_tuple_mul (F.args_tuple_mul_2 _ _) (qgU l its.toArray n dd sl k t (by simpa using hne') ?_ (by simpa using e1) (by simp; omega) ?_ ?_ (by rw [hfold]; simpa using hflat)) ⟨ho,?_⟩
 ·simp; omega
 ·simp; omega
 ·unfold Builtin.Tuple.tupleTooMany
  rw [List.size_toArray,sizeLine_eq]
  simp
  omega
 ·rw [hfold]
  refine new _ _ (r.rep k.toNat) ?_ (q2 e1)
  rw [len_rep]
  have:k.toNat * xs.length≤1000 * 1000:=Nat.mul_le_mul (by omega) (by omega)
  rw [sizeLine_eq]; omega
end
end L2
namespace L2
open PySem PySem.Spec PyProof.Rows
section
variable {X:Cx}{pins:List (Addr × Obj)}{σ:St}{H:Hp}{s:Shared}{h':Heap}{fp:List Addr}
theorem Inv.turnedL {t':Nat}(I:Inv X pins σ H s)(hf:∀ b∈fp,FpOk X pins H b)(k:∀ b o,b ∉ fp->s.heap.get? b=some o->h'.get? b=some o):Inv X pins σ H { s with heap:=h',toks:=t' }:=by
 have nit:∀ b u,H b=some u->b ∉ fp:=fun b u e z=>by rw [(hf b z).1] at e; cases e
 have hL:X.env.locals ∉ fp:=fun z=>(hf _ z).2.1 rfl
 refine I.step (g':=s.gens) (d':=s.drawn) (ch:=fp) (fun b hb=>⟨(hf b hb).2.2.2.1,(hf b hb).2.1,(hf b hb).2.2.2.2.1,(hf b hb).2.2.2.2.2⟩) (fun b o _ _ hc e _=>k b o hc e) (fun b o _ _ hc e _=>⟨o.slots,k b o hc e⟩) (fun _ _ _ _ n=>n)
  (fun b o hc e=>⟨o,k b o hc e⟩) (fun _ _ e=>e) (fun _ _ _ e=>e) (fun b ps e=>⟨#[],by rw [e]; simp⟩) (fun m hm=>?_) (fun b u e=>?_) I.bare
 ·obtain ⟨o,es,ep,ho,r⟩:=hm
  exact ⟨o,es,ep,k _ o hL ho,r⟩
 ·refine (I.hok b u e).stay (fun c v hc q=>k c v ?_ q) (fun _ q=>q) fun _ _ q=>q
  rcases hc with z | z
  ·rw [z]; exact nit b u e
  ·exact nit c _ z
theorem Inv.turnedNew {t':Nat}{T:Addr}{u:HO}(I:Inv X pins σ H s)(hf:∀ b∈fp,FpOk X pins H b)(k:∀ b o,b ∉ fp->s.heap.get? b=some o->h'.get? b=some o)(hT:s.heap.objs.size≤T)(new:qaW X.prog X.w (upd H T u) h' T u) :
  Inv X pins σ (upd H T u) { s with heap:=h',toks:=t' }:=by
 have hn:H T=none:=I.hok.fresh hT
 have nit:∀ b u,H b=some u->b ∉ fp:=fun b u e z=>by rw [(hf b z).1] at e; cases e
 have hL:X.env.locals ∉ fp:=fun z=>(hf _ z).2.1 rfl
 have nT:∀ b o,s.heap.get? b=some o->b≠T:=fun b o e=>Nat.ne_of_lt (Nat.lt_of_lt_of_le (Heap.lt_size e) hT)
 refine I.step (g':=s.gens) (d':=s.drawn) (ch:=fp) (fun b hb=>⟨(hf b hb).2.2.2.1,(hf b hb).2.1,(hf b hb).2.2.2.2.1,(hf b hb).2.2.2.2.2⟩) (fun b o _ _ hc e _=>k b o hc e) (fun b o _ _ hc e _=>⟨o.slots,k b o hc e⟩) (fun b o _ e n=>by rw [uE (nT b o e)]; exact n)
  (fun b o hc e=>⟨o,k b o hc e⟩) (fun b xs e=>by rw [uE (qae e hn)]; exact e) (fun b o v e=>by rw [uE (qae e hn)]; exact e) (fun b ps e=>⟨#[],by rw [uE (qae e hn),e]; simp⟩) (fun m hm=>?_) (fun b v e=>?_) I.bare
 ·obtain ⟨o,es,ep,ho,r⟩:=hm
  exact ⟨o,es,ep,k _ o hL ho,r⟩
 ·by_cases hb:b=T
  ·subst hb; rw [uS] at e; cases e; exact new
  ·rw [uE hb] at e
   refine (I.hok b v e).stay (fun c v' hc q=>k c v' ?_ q) (fun c q=>by rw [uE (qae q hn)]; exact q) (fun c xs q=>by rw [uE (qae q hn)]; exact q) fun c ob q=>by rw [uE (qae q hn)]; exact q
   rcases hc with z | z
   ·rw [z]; exact nit b v e
   ·exact nit c _ z
end
def Itz (K:PySem.W.Frag)(a b:Addr):It :=
 ⟨fun i H=>∃ xs ys x y,SqL K H a xs/\SqL K H b ys/\xs[i]?=some x/\ys[i]?=some y,
  fun i H v H'=>∃ p x y,v = .ref p/\H p=none/\H'=upd H p (.tup [x,y])/\∀ xs ys,SqL K H a xs->SqL K H b ys->xs[i]?=some x/\ys[i]?=some y,
  fun i H=>∃ xs ys,SqL K H a xs/\SqL K H b ys/\(xs.length≤i\/ys.length≤i)⟩
theorem qjt {P:Program}{w:World}{K:PySem.W.Frag}{elts:List Expr}{c:Nat}{pos:Pos}{z TI TO i1 i2 a b:Addr}(D:ZipApart z TI TO i1 i2 a b) :
  Turn P w K (.Tuple elts c pos) (Itz K a b) [z,TI,TO,i1,i2] z (fun i h=>IsZip h z TI TO .none/\IsPair h TI (.ref i1) (.ref i2)/\(∃ u v,IsPair h TO u v)/\h.IsListIter i1 a i/\h.IsListIter i2 b i) where
 mem:=by simp
 obj:=fun i h st x hx=>by
  obtain ⟨hz,hTI,⟨u,v,hTO⟩,⟨o1,e1,c1,d1⟩,o2,e2,c2,d2⟩:=st
  simp only [List.mem_cons,List.not_mem_nil,or_false] at hx
  rcases hx with rfl | rfl | rfl | rfl | rfl
  ·exact ⟨_,hz,fun _ q=>by cases q⟩
  ·exact ⟨_,hTI,fun _ q=>by cases q⟩
  ·exact ⟨_,hTO,fun _ q=>by cases q⟩
  ·exact ⟨_,e1,fun _ q=>by rw [d1] at q; cases q⟩
  ·exact ⟨_,e2,fun _ q=>by rw [d2] at q; cases q⟩
 keep:=fun i h h' st k=>by
  obtain ⟨hz,hTI,⟨u,v,hTO⟩,h1,h2⟩:=st
  exact ⟨k z (by simp) _ hz,k TI (by simp) _ hTI,⟨u,v,k TO (by simp) _ hTO⟩,h1.at fun o e=>k i1 (by simp) o e,h2.at fun o e=>k i2 (by simp) o e⟩
 item:=by
  intro X hP hw hK hc i pins s σ H E I hf st hg
  subst hP hw hK
  obtain ⟨xs,ys,x,y,hq1,hq2,hx,hy⟩:=hg
  obtain ⟨its1,rv1,p1,_⟩:=I.list hq1
  obtain ⟨its2,rv2,p2,_⟩:=I.list hq2
  obtain ⟨u,hu,ru⟩:=rv1.get hx
  obtain ⟨v,hv,rv⟩:=rv2.get hy
  obtain ⟨hz,hTI,⟨u0,v0,hTO⟩,h1,h2⟩:=st
  refine wpAny_pyNext_zip_item D hz hTI hTO h1 h2 p1.isList p2.isList (x:=u) (y:=v) (by simpa using hu) (by simpa using hv) fun h' a1 a2 a3 a4 a5 a6 hk=>⟨_,rfl,?_⟩
  have lt:∀ {c o},s.heap.get? c=some o->s.heap.objs.size≠c:=fun e=>Nat.ne_of_gt (Heap.lt_size e)
  refine wpAny_letOwnedTupleGo_zip (s:={ s with heap:=h' }) a1 fun h'' b1 sb=>?_
  have hn:H s.heap.objs.size=none:=I.hok.fresh (Nat.le_refl _)
  have kk:∀ c o,c ∉ [z,TI,TO,i1,i2]->s.heap.get? c=some o->h''.get? c=some o:=fun c o hc' e=>by
   simp only [List.mem_cons,List.not_mem_nil,or_false,not_or] at hc'
   obtain ⟨n1,n2,n3,n4,n5⟩:=hc'
   exact sb.extBut _ _ n1 (hk c o n1 n3 n4 n5 e)
  have T1:IsPair h'' s.heap.objs.size u v:=sb.extBut _ _ (lt hz) a5
  refine ⟨.ref s.heap.objs.size,upd H s.heap.objs.size (.tup [x,y]),I.turnedNew (t':=s.toks) hf kk (Nat.le_refl _) ⟨by show 2≤_; decide,[u,v],.cons ru (.cons rv .nil),_,T1,rfl,_,rfl,rfl⟩,rfl,⟨_,x,y,rfl,hn,rfl,fun xs' ys' q1 q2=>?_⟩,⟨b1,?_,⟨_,_,sb.extBut _ _ D.TOz a2⟩,a3.extBut sb.extBut D.i1z,a4.extBut sb.extBut D.i2z⟩,fun b hb=>?_⟩
  ·rw [I.list_inj q1 hq1,I.list_inj q2 hq2]; exact ⟨hx,hy⟩
  ·exact sb.extBut _ _ D.TIz (hk _ _ D.TIz D.TITO D.TIi1 D.TIi2 hTI)
  ·rw [uE]
   ·exact (hf b hb).1
   ·simp only [List.mem_cons,List.not_mem_nil,or_false] at hb
    obtain ⟨o1,e1,_,_⟩:=h1
    obtain ⟨o2,e2,_,_⟩:=h2
    rcases hb with rfl | rfl | rfl | rfl | rfl
    ·exact (lt hz).symm
    ·exact (lt hTI).symm
    ·exact (lt hTO).symm
    ·exact (lt e1).symm
    ·exact (lt e2).symm
 done:=by
  intro X hP hw hK hc i pins s σ H E I hf st hg
  subst hP hw hK
  obtain ⟨xs,ys,hq1,hq2,hx⟩:=hg
  obtain ⟨its1,rv1,p1,_⟩:=I.list hq1
  obtain ⟨its2,rv2,p2,_⟩:=I.list hq2
  have l1:=rv1.length
  have l2:=rv2.length
  obtain ⟨hz,hTI,⟨u0,v0,hTO⟩,h1,h2⟩:=st
  refine wpAny_pyNext_zip_end (I.ok.hd hc) D hz hTI hTO h1 h2 p1.isList p2.isList (by simp; omega) fun h' hk=>⟨rfl,I.turnedL (t':=s.toks) hf fun c o hc' e=>?_⟩
  simp only [List.mem_cons,List.not_mem_nil,or_false,not_or] at hc'
  obtain ⟨n1,n2,n3,n4,n5⟩:=hc'
  exact hk c o n1 n3 n4 n5 e
 self:=fun _ _ _ _ _ st h=>wpAny_pyIter_zip st.1 h
def iZip (K:PySem.W.Frag)(ta:TA):TI:=fun σ H R=>ta σ H fun vs H1=>∃ a b,vs=[.ref a,.ref b]/\(∃ xs,SqL K H1 a xs)/\(∃ ys,SqL K H1 b ys)/\R (Itz K a b) H1
theorem qhm {n a b:Nat}(ha:a < n)(hb:b < n):ZipApart (n + 4) (n + 2) (n + 3) n (n + 1) a b:=by
 constructor <;> (show ¬ ((_:Nat)=_)) <;> omega
theorem boot_zip:bootBuiltins "zip" = some (.type "zip"):=by decide +kernel
theorem qh4 {X:Cx}{elts:List Expr}{c:Nat}{tpos:Pos}{a b:Expr}{ta:TA}{p pos:Pos}(hg:Gl X "zip")(hm:X.mg "zip" = none)(ha:PA X [a,b] ta)(hs:starEach [a,b] X.env=[(false,eval a X.env),(false,eval b X.env)]:=by rfl)(hs2:starEach [b] X.env=[(false,eval b X.env)]:=by rfl) :
  PI X (.Tuple elts c tpos) (.Call (.Name "zip" p) [a,b] [] pos) (iZip X.K ta):=by
 intro pins s σ H R I h
 refine Call_ (qcG I hg hm boot_zip (PyProof.Rows.callWith_type1 (thn (ha pos pins s σ H _ I h) fun us s1 ⟨vs,H1,I1,r1,q1⟩=>?_) (by rw [hs,hs2]) (by rw [hs2]; rfl)))
 obtain ⟨a,b,e,⟨xs,hq1⟩,⟨ys,hq2⟩,q⟩:=q1
 subst e
 cases r1 with
 | cons r rr =>
  cases rr with
  | cons r' rr =>
   cases rr
   cases r
   cases r'
   obtain ⟨its1,rv1,p1,_⟩:=I1.list hq1
   obtain ⟨its2,rv2,p2,_⟩:=I1.list hq2
   have la:a < s1.heap.objs.size:=by obtain ⟨o,n,e,_⟩:=p1; exact Heap.lt_size e
   have lb:b < s1.heap.objs.size:=by obtain ⟨o,n,e,_⟩:=p2; exact Heap.lt_size e
   refine call_zip_2 p1.isList p2.isList fun h' a1 a2 a3 a4 a5 a6 hk=>wpAny_pyIter_zip a1 ?_
   have D:ZipApart (s1.heap.objs.size + 4) (s1.heap.objs.size + 2) (s1.heap.objs.size + 3) s1.heap.objs.size (s1.heap.objs.size + 1) a b:=qhm la lb
   refine ⟨_,_,_,_,H1,rfl,I1.kept (t':=s1.toks) hk,qjt D,⟨a1,a2,⟨_,_,a3⟩,a4,a5⟩,fun x hx=>?_,q⟩
   have hx':s1.heap.objs.size≤x:=by
    simp only [List.mem_cons,List.not_mem_nil,or_false] at hx
    rcases hx with rfl | rfl | rfl | rfl | rfl <;> (show (_:Nat)≤(_:Nat)) <;> omega
   exact I1.fpOk hx' (I1.hok.fresh hx')
end L2
namespace My
open PySem L2 MA
abbrev penV (c:Addr)(a l:Int):List V:=[.ref c,.int a,.int l]
structure qbh (p:Addr)(H H':Hp):Prop where
 all:∀ b o,H b=some o->b≠p->H' b=some o
 pen:∀ c a l,H p=some (.lst (penV c a l))->∃ a' l',H' p=some (.lst (penV c a' l'))
theorem qbh.trans {p:Addr}{H H1 H2:Hp}(a:qbh p H H1)(b:qbh p H1 H2):qbh p H H2 :=
 ⟨fun c o h n=>b.all c o (a.all c o h n) n,fun c x l h=>let ⟨x',l',h'⟩:=a.pen c x l h; b.pen c x' l' h'⟩
theorem Same.y {p:Addr}{H H':Hp}(a:Same H H'):qbh p H H':=⟨fun b o h _=>a b o h,fun _ x l h=>⟨x,l,a _ _ h⟩⟩
theorem qbh.upd {p c:Addr}{H:Hp}{a l a' l':Int}(h:H p=some (.lst (penV c a l))):qbh p H (upd H p (.lst (penV c a' l'))) :=
 ⟨fun b o e hb=>by rw [uE hb]; exact e,fun c' x y e=>by rw [h] at e; cases e; exact ⟨a',l',uS⟩⟩
def PenY (H:Hp)(p:Addr)(n:Nat):Prop:=∃ (c:Addr) (ns:List Int) (a l:Int),H p=some (.lst (penV c a l))/\c≠p/\H c=some (.lst (ns.map V.int))/\0≤a/\a≤n
theorem PenY.mono {H:Hp}{p:Addr}{m n:Nat}(h:PenY H p m)(l:m≤n):PenY H p n:=let ⟨c,ns,a,x,h1,h2,h3,h4,h5⟩:=h; ⟨c,ns,a,x,h1,h2,h3,h4,by omega⟩
theorem PenY.same {H H':Hp}{p:Addr}{n:Nat}(h:PenY H p n)(s:Same H H'):PenY H' p n:=let ⟨c,ns,a,x,h1,h2,h3,h4,h5⟩:=h; ⟨c,ns,a,x,s _ _ h1,h2,s _ _ h3,h4,h5⟩
def qd9:Sp:=fun vs H Q _=>∃ (p:Addr) (m:Int) (n:Nat),vs=[.ref p,.int m]/\PenY H p n/\n < 100000/\0 < m/\m < 1073741824/\∀ (r:Int) (H':Hp),0≤r->r < m->PenY H' p (n + 1)->qbh p H H'->Q (.int r) H'
def qkK (K:PySem.W.Frag):Sp:=fun vs H Q _=>∃ (a:Addr) (ns:List Int),vs=[.ref a]/\SqL K H a (ns.map V.int)/\∀ (p:Addr) (H':Hp),Same H H'->PenY H' p 0->Q (.ref p) H'
end My
namespace L2
open PySem PySem.Spec PyProof.Rows
def qmX (n:Nat)(t:TGs):TG:=fun v σ H Q=>∃ a xs,v = .ref a/\H a=some (.tup xs)/\xs.length=n/\t xs σ H Q
theorem qaY {X:Cx}{pos:Pos}{es:List Expr}{k:Nat}{t:TGs}{n:Nat}(hc:X.calm=true)(h:PGs X es t)
  (hn:(assignEach es X.env).length=n:=by rfl) (hst:(assignEach es X.env).findIdx? (·.1)=none:=by rfl):PG X (.Tuple es k pos) (qmX n t):=by
 intro pins s σ H v u Q I r hw
 obtain ⟨a,xs,e1,hq,hl,hw⟩:=hw
 exact qbs hc h hn hst pins s σ H v u Q I r ⟨a,xs,e1,SqT.of hq,hl,hw⟩
def rSlL0:V->Option Int->Option Int->Hp->VK->Prop:=fun x lo hi H Q=>∃ a xs,x = .ref a/\H a=some (.lst xs)/\∀ p,H p=none->Q (.ref p) (upd H p (.lst (cutV xs lo hi)))
theorem qf7 {X:Cx}:SlR X rSlL0:=by
 intro pins s σ H x v vl vu lo hi sl Q I rx hs pl pu h
 obtain ⟨a,xs,e,hx,q⟩:=h
 exact qhR pins s σ H x v vl vu lo hi sl Q I rx hs pl pu ⟨a,xs,e,SqL.of hx,q⟩
end L2
namespace My
open PySem L2 MA
theorem qkt {K:PySem.W.Frag}{a b:Addr}{xs ys:List V}{te:TE}{H:Hp}{R:Addr->Hp->Prop}{fs:St}(F:V->V->V)(ha:H a=some (.lst xs))(hb:H b=some (.lst ys))(hl:xs.length=ys.length)(hz:xs.length≤1000)
  (hte:∀ (i:Nat) x y,xs[i]?=some x->ys[i]?=some y->∀ (H':Hp) (Q':VK),Same H H'->(∀ H'',Same H' H''->Q' (F x y) H'')->te (some x :: some y :: fs) H' Q')
  (q:∀ p H',Same H H'->H' p=some (.lst (List.zipWith F xs ys))->R p H') :
  ∀ p,H p=none->∃ W:Nat->Nat->List V->St->Hp->Prop,(∃ m,W 0 m [] (none :: none :: fs) (upd H p (.lst [])))/\∀ i m zs σ' H',W i m zs σ' H' ->
   ((Itz K a b).stop i H'/\R p H')\/((Itz K a b).go i H'/\∀ x H2,(Itz K a b).yld i H' x H2->qmX 2 (ql5 (qcK 0) (ql5 (qcK 1) gNil)) x σ' H2 fun σ2 H3=>tTT σ2 H3 fun b H4=>if b=true then te σ2 H4 fun v H5=>zs.length < sizeLine/\H5 p=some (.lst zs)/\(∃ m',m' < m/\W (i + 1) m' (zs ++ [v]) σ2 (upd H5 p (.lst (zs ++ [v]))))
    else ∃ m',m' < m/\W (i + 1) m' zs σ2 H4):=by
 intro p hp
 refine ⟨fun i m zs σ' H'=>m=xs.length - i/\i≤xs.length/\zs=List.zipWith F (xs.take i) (ys.take i)/\Same H H'/\H' p=some (.lst zs)/\∃ o1 o2,σ'=o1 :: o2 :: fs,⟨xs.length,by simp,Nat.zero_le _,by simp,sN hp _,uS,_,_,rfl⟩,?_⟩
 rintro i m zs σ' H' ⟨rfl,hi,rfl,s',hp',o1,o2,rfl⟩
 have ha':=s' _ _ ha
 have hb':=s' _ _ hb
 by_cases hlt:i < xs.length
 ·refine .inr ⟨⟨xs,ys,xs[i],ys[i]'(by omega),SqL.of ha',SqL.of hb',List.getElem?_eq_getElem hlt,List.getElem?_eq_getElem (by omega)⟩,fun x H2 hy=>?_⟩
  obtain ⟨r,x,y,rfl,hr,rfl,hxy⟩:=hy
  obtain ⟨hx,hy⟩:=hxy xs ys (SqL.of ha') (SqL.of hb')
  have s2:=s'.trans (sN hr (.tup [x,y]))
  refine ⟨r,_,rfl,uS,rfl,_,_,rfl,_,_,rfl,rfl,?_⟩
  change te (some x :: some y :: fs) _ _
  have hp2:=sN hr (.tup [x,y]) _ _ hp'
  refine hte i x y hx hy _ _ s2 fun H5 s5=>⟨?_,s5 _ _ hp2,xs.length - (i + 1),by omega,rfl,hlt,?_,?_,uS,_,_,rfl⟩
  ·rw [List.length_zipWith,List.length_take,List.length_take,sizeLine_eq]; omega
  ·rw [List.take_add_one,List.take_add_one,hx,hy,List.zipWith_append (by rw [List.length_take,List.length_take,hl])]; rfl
  ·intro b o e
   rw [uE (qae e hp)]
   exact s5 _ _ (s2 _ _ e)
 ·have e:i=xs.length:=by omega
  subst e
  refine .inl ⟨⟨xs,ys,SqL.of ha',SqL.of hb',.inl (Nat.le_refl _)⟩,q p H' s' ?_⟩
  rw [hp',List.take_length,hl,List.take_length]
end My
namespace L2
open PySem PySem.Spec PyProof.Rows
section
variable {prog:Program}{w:World}{A:Around}{E:Value->Shared->Prop}{s:Shared}
theorem qeO {it t:Addr}{i:Nat}{its:Array Value}{x:Value}{Q:Value->Shared->Prop}(hi:s.heap.IsTupleIter it t i)(hs:s.heap.IsTuple t its)(hx:its[i]?=some x)
  (k:∀ h',h'.IsTupleIter it t (i + 1)->Heap.SameBut it s.heap h'->Q x { s with heap:=h' }):wpAny (model prog w) A (Builtin.SmallTypes.nextOf (.ref it)) Q E s:=by
 obtain ⟨ob,e1,e2,e3⟩:=id hi
 obtain ⟨oq,f1,f2,n,f3⟩:=hs
 unfold Builtin.SmallTypes.nextOf
 refine wpAny_bind (wpAny_callSpecial?_slot (name:=Str.ofString "__next__") hi.typeIs F.slot_tuple_iterator_next (wpAny_call_entry F.slot_tuple_iterator_next hi.typeIs F.entry_tuple_iterator_next ?_ (F.args_tuple_iterator_next_1 _)))
 refine wpAny_bind (m:=field (.ref it) 0) (wpAny_field e1 e3 (x := .ref t) rfl ?_)
 show wpAny (model prog w) _ (if (Value.ref t == Value.none)=true then _ else _) _ _ s
 rw [if_neg (by intro z; cases z)]
 refine wpAny_bind (m:=field (.ref it) 1) (wpAny_field e1 e3 (x := .int i 0) rfl ?_)
 refine wpAny_bind (m:=seqItems? (.ref t)) (wpAny_seqItems f1 f3 ?_)
 simp only [hx,Int.toNat_natCast]
 refine wpAny_bind (wpAny_setField e1 e3 (by simp) (wpAny_pure ⟨x,rfl,wpAny_pure (k _ ⟨_,Heap.get?_update_self _ e1 (Obj.isFreed_of_fields (Obj.data_mapFields e3 _)),(Obj.cls_mapFields ..).trans e2,?_⟩ (Heap.SameBut.update ..))⟩))
 rw [Obj.data_mapFields e3]
 simp [rawInt]
theorem qdf {it t:Addr}{i:Nat}{its:Array Value}{Q:Value->Shared->Prop}(hh:A.handled=none)(hi:s.heap.IsTupleIter it t i)(hs:s.heap.IsTuple t its)(hx:its[i]?=none)
  (k:∀ h' e,Heap.ExtBut it s.heap h'->(∃ o,h'.get? e=some o/\o.cls = .type "StopIteration")->E (.ref e) { s with heap:=h' }):wpAny (model prog w) A (Builtin.SmallTypes.nextOf (.ref it)) Q E s:=by
 obtain ⟨ob,e1,e2,e3⟩:=id hi
 obtain ⟨oq,f1,f2,n,f3⟩:=hs
 unfold Builtin.SmallTypes.nextOf
 refine wpAny_bind (wpAny_callSpecial?_slot (name:=Str.ofString "__next__") hi.typeIs F.slot_tuple_iterator_next (wpAny_call_entry F.slot_tuple_iterator_next hi.typeIs F.entry_tuple_iterator_next ?_ (F.args_tuple_iterator_next_1 _)))
 refine wpAny_bind (m:=field (.ref it) 0) (wpAny_field e1 e3 (x := .ref t) rfl ?_)
 show wpAny (model prog w) _ (if (Value.ref t == Value.none)=true then _ else _) _ _ s
 rw [if_neg (by intro z; cases z)]
 refine wpAny_bind (m:=field (.ref it) 1) (wpAny_field e1 e3 (x := .int i 0) rfl ?_)
 refine wpAny_bind (m:=seqItems? (.ref t)) (wpAny_seqItems f1 f3 ?_)
 simp only [hx,Int.toNat_natCast]
 refine wpAny_bind (wpAny_rule (wpAny_bind (wpAny_setField e1 e3 (by simp) (wpAny_bind (m:=newExc (.type "StopIteration") []) ?_))))
 simp only [newTuple,newExc]
 refine wpAny_bind (wpAny_newObj_type (wpAny_bind (m:=firstArgMember _ _) (wpAny_of_eq (a:=Value.none) (by first | rfl | (simp only [firstArgMember]; rfl)) (wpAny_newObj_type ?_ (by size_fits)))) (by size_fits))
 simp only [raiseNew]
 refine wpAny_bind (wpAny_handled ?_)
 rw [show A.in1.handled=none from hh]
 refine wpAny_bind (wpAny_pure (wpAny_throw (k _ _ (((Heap.SameBut.update ..).extBut.push _).push _) ⟨_,Heap.get?_push_size _ rfl,rfl⟩)))
end
def IsB (h:Heap):Bool->Addr->Array Value->Prop
 | true=>h.IsList
 | false=>h.IsTuple
def qcz (h:Heap):Bool->Addr->Addr->Nat->Prop
 | true=>h.IsListIter
 | false=>h.IsTupleIter
def SqB (K:PySem.W.Frag)(H:Hp):Bool->Addr->List V->Prop
 | true=>SqL K H
 | false=>SqT K H
theorem IsB.at {h h':Heap}{b:Bool}{a:Addr}{its:Array Value}(x:IsB h b a its)(k:∀ o,h.get? a=some o->h'.get? a=some o):IsB h' b a its:=by
 cases b <;> (obtain ⟨o,e,r⟩:=x; exact ⟨o,k o e,r⟩)
theorem qcz.at {h h':Heap}{b:Bool}{a l:Addr}{i:Nat}(x:qcz h b a l i)(k:∀ o,h.get? a=some o->h'.get? a=some o):qcz h' b a l i:=by
 cases b <;> (obtain ⟨o,e,r⟩:=x; exact ⟨o,k o e,r⟩)
theorem qcz.ob {h:Heap}{b:Bool}{a l:Addr}{i:Nat}(x:qcz h b a l i):∃ o,h.get? a=some o/\∀ v,o.data ≠ .cell v:=by
 cases b <;> (obtain ⟨o,e,_,d⟩:=x; exact ⟨o,e,fun v z=>by rw [d] at z; cases z⟩)
theorem IsB.lt {h:Heap}{b:Bool}{a:Addr}{its:Array Value}(x:IsB h b a its):a < h.objs.size:=by
 cases b <;> (obtain ⟨o,e,_⟩:=x; exact Heap.lt_size e)
theorem qm3 {prog:Program}{w:World}{A:Around}(hh:A.handled=none)(b:Bool)(it l:Addr)(hne:l≠it)(its:Array Value) :
  Draws prog w A it [it,l] its.size (fun i v=>its[i]?=some v) (fun i h=>qcz h b it l i/\IsB h b l its):=by
 cases b with
 | true=>exact Draws.list hh it l hne its
 | false =>
  exact {
   live:=fun _ _ st=>let ⟨o,ho,_⟩:=st.1; ⟨o,ho⟩
   frame:=fun _ _ _ st hk=>⟨st.1.at fun o e=>hk it (by simp) o e,st.2.at fun o e=>hk l (by simp) o e⟩
   item:=fun i s Q E hi st hQ=>qeO st.1 st.2 (x:=its[i]) (by simp [hi]) fun h' a sb=>hQ _ h' s.toks (by simp [hi]) ⟨a,st.2.at fun o e=>(sb.2 l hne).trans e⟩ sb
   done:=fun s Q E st hE=>qdf hh st.1 st.2 (by simp) hE }
theorem iterB {prog:Program}{w:World}{A:Around}{E:Value->Shared->Prop}{s:Shared}{b:Bool}{l:Addr}{its:Array Value}{Q:Value->Shared->Prop}(hl:IsB s.heap b l its)
  (k:∀ h',qcz h' b s.heap.objs.size l 0->h'.objs.size=s.heap.objs.size + 1->(∀ c o,s.heap.get? c=some o->h'.get? c=some o)->Q (.ref s.heap.objs.size) { s with heap:=h' }):wpAny (model prog w) A (pyIter (.ref l)) Q E s:=by
 cases b with
 | true=>exact wpAny_pyIter_list hl (k _ ⟨_,Heap.get?_push_size _ rfl,rfl,rfl⟩ (Heap.size_push ..) fun c o e=>Heap.get?_push_of_some _ e)
 | false=>exact wpAny_pyIter_tuple hl (k _ ⟨_,Heap.get?_push_size _ rfl,rfl,rfl⟩ (Heap.size_push ..) fun c o e=>Heap.get?_push_of_some _ e)
section
variable {X:Cx}{pins:List (Addr × Obj)}{σ:St}{H:Hp}{s:Shared}{a:Addr}{xs ys:List V}{b:Bool}
theorem Inv.seqB (I:Inv X pins σ H s)(h:SqB X.K H b a xs):∃ its:List Value,Vals xs its/\IsB s.heap b a its.toArray/\xs.length≤sizeLine:=by
 cases b with
 | true=>obtain ⟨its,r,p,z⟩:=I.list h; exact ⟨its,r,p.isList,z⟩
 | false=>obtain ⟨its,r,p,z⟩:=I.tuple h; exact ⟨its,r,p,z⟩
theorem Inv.seqB_inj (I:Inv X pins σ H s)(h:SqB X.K H b a xs)(h':SqB X.K H b a ys):xs=ys:=by
 cases b with
 | true=>exact I.list_inj h h'
 | false=>exact I.tuple_inj h h'
end
section
variable {prog:Program}{w:World}{A:Around}{E:Value->Shared->Prop}{s:Shared}
theorem qj4 {b:Bool}{it t:Addr}{i:Nat}{its:Array Value}{Q:Value->Shared->Prop}(hh:A.handled=none)(hi:qcz s.heap b it t i)(hs:IsB s.heap b t its)(hx:its[i]?=none)
  (k:∀ h' e,Heap.ExtBut it s.heap h'->(∃ o,h'.get? e=some o/\o.cls = .type "StopIteration")->E (.ref e) { s with heap:=h' }):wpAny (model prog w) A (Builtin.SmallTypes.nextOf (.ref it)) Q E s:=by
 cases b with
 | true=>exact wpAny_nextOf_list_end hh hi hs hx k
 | false=>exact qdf hh hi hs hx k
def itc:Bool->String
 | true => "list_iterator"
 | false => "tuple_iterator"
abbrev zG1 (h:Heap)(b1:Bool)(l1:Addr):Heap:=h.push { cls := .type (itc b1),data := .fields #[.ref l1,.int 0 0] }
theorem qfw {b:Bool}{l:Addr}{its:Array Value}{Q:Value->Shared->Prop}(hl:IsB s.heap b l its)
  (hQ:Q (.ref s.heap.objs.size) { s with heap:=s.heap.push { cls := .type (itc b),data := .fields #[.ref l,.int 0 0] } }):wpAny (model prog w) A (pyIter (.ref l)) Q E s:=by
 cases b with
 | true=>exact wpAny_pyIter_list hl hQ
 | false=>exact wpAny_pyIter_tuple hl hQ
end
section
variable {prog:Program}{w:World}{A:Around}{E:Value->Shared->Prop}{s:Shared}
theorem qiP (b:Bool)(l:Addr)(its:Array Value) :
  Meets (Builtin.«enumerate.__new__» ⟨[.type "enumerate",.ref l],[]⟩) (fun _ R s=>IsB s.heap b l its /\
   R (.ok (.ret (.ref (zG1 s.heap b l).objs.size))) { s with heap:=(zG1 s.heap b l).push { cls := .type "enumerate",data := .fields #[.none,.bool false,.ref s.heap.objs.size,rawInt 0,.none,.none] } }) :=
 .of_wp fun prog w A R s h=>by
  obtain ⟨hp,g,d,tk,os⟩:=s
  obtain ⟨q1,h⟩:=h
  have hsub:=sub_enumerate
  have a1:IsB (Shared.heap ⟨hp,g,d,tk,os⟩) b l its:=q1
  have hl:∃ o,hp.get? l=some o:=by cases b <;> (obtain ⟨o,e,_⟩:=q1; exact ⟨o,e⟩)
  obtain ⟨o,hl⟩:=hl
  wp_walk using AutoSeq1.wpAny_loadPart' hl
  refine wpAny_stack_any fun st=>wpAny_pure ?_
  split
  ·rename_i c _ _ _ _ _
   cases (c == Value.type "enumerate")
   ·wp_walk using AutoSeq1.wpAny_loadPart' hl,qfw a1
    exact ⟨_,rfl,h⟩
   ·wp_walk using AutoSeq1.wpAny_loadPart' hl,qfw a1
    exact ⟨_,rfl,h⟩
  ·wp_walk using AutoSeq1.wpAny_loadPart' hl,qfw a1
   exact ⟨_,rfl,h⟩
theorem qdX {b:Bool}{l:Addr}{its:Array Value}{Q:Value->Shared->Prop}(q1:IsB s.heap b l its)
  (h:∀ h',IsEnum h' (s.heap.objs.size + 1) s.heap.objs.size 0 .none->qcz h' b s.heap.objs.size l 0->(∀ c o,s.heap.get? c=some o->h'.get? c=some o)->Q (.ref (s.heap.objs.size + 1)) { s with heap:=h' }) :
  wpAny (model prog w) A (call (.type "enumerate") [.ref l]) Q E s:=by
 refine callType_new F.called_enumerate (by decide) (F.typeCall_enumerate_1 _) (F.newCall_enumerate_1 _) (fun obj=>F.args_object_init_2 obj _) F.entry_enumerate_new (qiP b l its) ⟨q1,?_⟩
 have n1:(zG1 s.heap b l).objs.size=s.heap.objs.size + 1:=Heap.size_push ..
 have g2:((zG1 s.heap b l).push { cls := .type "enumerate",data := .fields #[.none,.bool false,.ref s.heap.objs.size,rawInt 0,.none,.none] }).get? (zG1 s.heap b l).objs.size=some _:=Heap.get?_push_size _ rfl
 have g1:((zG1 s.heap b l).push { cls := .type "enumerate",data := .fields #[.none,.bool false,.ref s.heap.objs.size,rawInt 0,.none,.none] }).get? s.heap.objs.size=some _:=Heap.get?_push_of_some _ (Heap.get?_push_size _ rfl)
 show _/\_
 rw [n1] at g2
 rw [n1]
 refine ⟨⟨_,g2,rfl⟩,h _ g2 ?_ fun c o q=>Heap.get?_push_of_some _ (Heap.get?_push_of_some _ q)⟩
 cases b <;> exact ⟨_,g1,rfl,rfl⟩
theorem qiR {b:Bool}{e it l:Addr}{k:Nat}{its:Array Value}{i:Int}{old:Value}{Q:Option Value->Shared->Prop}(hh:A.in1.handled=none)(he:IsEnum s.heap e it i old)(h1:qcz s.heap b it l k)(h2:IsB s.heap b l its)(hx:its[k]?=none)
  (K:∀ h',Heap.ExtBut it s.heap h'->Q none { s with heap:=h' }):wpAny (model prog w) A (pyNext (.ref e)) Q E s:=by
 have T:s.TypeIs (.ref e) "enumerate" := ⟨_,he,rfl⟩
 unfold pyNext
 refine wpAny_bind (wpAny_attempt (wpAny_callSpecial?_slot (name:=Str.ofString "__next__") T F.slot_enumerate_next (wpAny_call_entry F.slot_enumerate_next T F.entry_enumerate_next ?_ (F.args_enumerate_next_1 _))))
 refine wpAny_bind (m:=field (.ref e) 2) (wpAny_field he rfl (x := .ref it) rfl (wpAny_bind (qj4 hh h1 h2 hx fun h' x he' ⟨o,ho,hc⟩=>?_)))
 exact wpAny_bind (wpAny_isInstance (T := "StopIteration") (b:=true) ⟨o,ho,hc⟩ isSubtype_stop (wpAny_pure (K _ he')))
end
def ItE (K:PySem.W.Frag)(b:Bool)(a:Addr):It :=
 ⟨fun i H=>∃ xs x,SqB K H b a xs/\xs[i]?=some x,
  fun i H v H'=>∃ p x,v = .ref p/\H p=none/\H'=upd H p (.tup [.int i,x])/\∀ xs,SqB K H b a xs->xs[i]?=some x,
  fun i H=>∃ xs,SqB K H b a xs/\xs.length≤i⟩
theorem qdz {P:Program}{w:World}{K:PySem.W.Frag}{elts:List Expr}{c:Nat}{pos:Pos}{b:Bool}{e it a:Addr}(hei:e≠it)(hea:e≠a)(hia:a≠it) :
  Turn P w K (.Tuple elts c pos) (ItE K b a) [e,it] e (fun i h=>(∃ old,IsEnum h e it i old)/\qcz h b it a i) where
 mem:=by simp
 obj:=fun i h st x hx=>by
  obtain ⟨⟨old,he⟩,h1⟩:=st
  simp only [List.mem_cons,List.not_mem_nil,or_false] at hx
  rcases hx with rfl | rfl
  ·exact ⟨_,he,fun _ q=>by cases q⟩
  ·exact h1.ob
 keep:=fun i h h' st k=>by
  obtain ⟨⟨old,he⟩,h1⟩:=st
  exact ⟨⟨old,k e (by simp) _ he⟩,h1.at fun o q=>k it (by simp) o q⟩
 item:=by
  intro X hP hw hK hc i pins s σ H E I hf st hg
  subst hP hw hK
  obtain ⟨xs,x,hq1,hx⟩:=hg
  obtain ⟨its1,rv1,p1,_⟩:=I.seqB hq1
  obtain ⟨u,hu,ru⟩:=rv1.get hx
  obtain ⟨⟨old,he⟩,h1⟩:=st
  have hi:i < its1.toArray.size:=by
   have:=rv1.length
   have h2:=(List.getElem?_eq_some_iff.mp hx).1
   simp; omega
  have hh:X.A.in1.handled=none:=I.ok.hd hc
  refine wpAny_pyNext_enum_itemD (qm3 hh b it a hia its1.toArray) he ⟨h1,p1⟩ hi hei (by simp [hei,hea]) fun y h' tk hy eo st' hT hsz hk=>⟨_,rfl,?_⟩
  obtain rfl:y=u:=by
   have hy':its1[i]?=some y:=by simpa using hy
   rw [hu] at hy'
   exact (Option.some.inj hy').symm
  have lt:∀ {c o},s.heap.get? c=some o->s.heap.objs.size≠c:=fun q=>Nat.ne_of_gt (Heap.lt_size q)
  refine wpAny_letOwnedTupleGo_enum (s:={ s with heap:=h',toks:=tk + 1 }) eo fun h'' c1 sb=>?_
  have hn:H s.heap.objs.size=none:=I.hok.fresh (Nat.le_refl _)
  have kk:∀ c o,c ∉ [e,it]->s.heap.get? c=some o->h''.get? c=some o:=fun c o hc' q=>by
   simp only [List.mem_cons,List.not_mem_nil,or_false,not_or] at hc'
   exact (sb.2 _ hc'.1).trans (hk c o hc'.1 hc'.2 q)
  have T1:h''.get? s.heap.objs.size=some { cls := .type "tuple",data := .seq #[.int i tk,y] }:=(sb.2 _ (lt he)).trans hT
  refine ⟨.ref s.heap.objs.size,upd H s.heap.objs.size (.tup [.int i,x]),I.turnedNew (t':=tk + 1) hf kk (Nat.le_refl _) ⟨by show 2≤_; decide,[.int i tk,y],.cons ⟨_,rfl⟩ (.cons ru .nil),_,T1,rfl,_,rfl,rfl⟩,rfl,⟨_,x,rfl,hn,rfl,fun xs' q1=>?_⟩,
   ⟨⟨_,by simpa using c1⟩,st'.1.at fun o q=>(sb.2 _ hei.symm).trans q⟩,fun b hb=>?_⟩
  ·rw [I.seqB_inj q1 hq1]; exact hx
  ·rw [uE]
   ·exact (hf b hb).1
   ·simp only [List.mem_cons,List.not_mem_nil,or_false] at hb
    obtain ⟨o1,e1,_⟩:=h1.ob
    rcases hb with rfl | rfl
    ·exact (lt he).symm
    ·exact (lt e1).symm
 done:=by
  intro X hP hw hK hc i pins s σ H E I hf st hg
  subst hP hw hK
  obtain ⟨xs,hq1,hx⟩:=hg
  obtain ⟨its1,rv1,p1,_⟩:=I.seqB hq1
  have l1:=rv1.length
  obtain ⟨⟨old,he⟩,h1⟩:=st
  have hh:X.A.in1.handled=none:=I.ok.hd hc
  exact qiR hh he h1 p1 (by simp; omega) fun h' eb=>⟨rfl,I.turnedL (t':=s.toks) hf fun c o hc' q=>eb c o (by simp at hc'; exact hc'.2) q⟩
 self:=fun _ _ _ _ _ st h=>by
  obtain ⟨⟨old,he⟩,_⟩:=st
  exact wpAny_pyIter_enum he h
def qmV (K:PySem.W.Frag)(b:Bool)(ta:TA):TI:=fun σ H R=>ta σ H fun vs H1=>∃ a,vs=[.ref a]/\(∃ xs,SqB K H1 b a xs)/\R (ItE K b a) H1
theorem boot_enumerate:bootBuiltins "enumerate" = some (.type "enumerate"):=by decide +kernel
theorem qjN (b:Bool){X:Cx}{elts:List Expr}{c:Nat}{tpos:Pos}{a:Expr}{ta:TA}{p pos:Pos}(hg:Gl X "enumerate")(hm:X.mg "enumerate" = none)(ha:PA X [a] ta)(hs:starEach [a] X.env=[(false,eval a X.env)]:=by rfl) :
  PI X (.Tuple elts c tpos) (.Call (.Name "enumerate" p) [a] [] pos) (qmV X.K b ta):=by
 intro pins s σ H R I h
 refine Call_ (qcG I hg hm boot_enumerate (PyProof.Rows.callWith_type1 (thn (ha pos pins s σ H _ I h) fun us s1 ⟨vs,H1,I1,r1,q1⟩=>?_) hs rfl))
 obtain ⟨a,e,⟨xs,hq1⟩,q⟩:=q1
 subst e
 cases r1 with
 | cons r rr =>
  cases rr
  cases r
  obtain ⟨its1,rv1,p1,_⟩:=I1.seqB hq1
  have la:=p1.lt
  refine qdX p1 fun h' a1 a2 hk=>wpAny_pyIter_enum a1 ?_
  refine ⟨_,_,_,_,H1,rfl,I1.kept (t':=s1.toks) hk,qdz (e:=s1.heap.objs.size + 1) (it:=s1.heap.objs.size) (Nat.succ_ne_self _) ?_ ?_,⟨⟨_,a1⟩,a2⟩,fun x hx=>?_,q⟩
  ·exact Nat.ne_of_gt (Nat.lt_succ_of_lt la)
  ·exact Nat.ne_of_lt la
  ·have hx':s1.heap.objs.size≤x:=by
    simp only [List.mem_cons,List.not_mem_nil,or_false] at hx
    rcases hx with rfl | rfl <;> (show (_:Nat)≤(_:Nat)) <;> omega
   exact I1.fpOk hx' (I1.hok.fresh hx')
theorem qhp {prog:Program}{w:World}{A:Around}(hh:A.handled=none)(b:Bool)(I l:Addr)(hne:l≠I)(its:Array Value) :
  Walks prog w A I [I,l] [I] its.size (fun i v=>its[i]?=some v) (fun i h=>qcz h b I l i/\IsB h b l its):=by
 cases b with
 | true=>exact Walks.list hh I l hne its
 | false=>exact Walks.tuple hh I l hne its
section
variable {X:Cx}
theorem SqB.l {K:PySem.W.Frag}{H:Hp}{a:Addr}{xs:List V}(h:H a=some (.lst xs)):SqB K H true a xs:=SqL.of h
def rGetL:V->V->Hp->VK->Prop:=fun o i H Q=>∃ p xs k v,o = .ref p/\i = .int k/\0≤k/\H p=some (.lst xs)/\atI xs k=some v/\Q v H
theorem qgB:PGet X rGetL:=by
 intro pins s σ H o i ov iv Q I ro ri h
 obtain ⟨p,xs,k,z,rfl,rfl,h0,hp,he,q⟩:=h
 cases ro
 obtain ⟨t,rfl⟩:=ri
 obtain ⟨its,r,pl,hz⟩:=I.list (SqL.of (K:=X.K) hp)
 obtain ⟨j,h1,h2,h3,h4,h5⟩:=qfV he
 obtain ⟨w,ew,rw'⟩:=r.get h2
 have hl:=r.length
 have hn:=qeQ
 have hj:k.toNat=j:=by
  rw [seqIndex_of h0 h5] at h1
  exact Option.some.inj h1
 exact wpAny_getItem_list pl.isList h0 (by omega) (by rw [hj]; simpa using ew) ⟨z,H,I,rw',q⟩
end
end L2
namespace L2
open PySem PySem.Spec PyProof.Rows MA
abbrev iv (ns:List Int):List V:=ns.map V.int
theorem iv_at {ns:List Int}{i:Nat}{x:V}(h:(iv ns)[i]?=some x):∃ y,ns[i]?=some y/\x = .int y:=by
 rw [List.getElem?_map] at h
 cases e:ns[i]? with
 | none=>rw [e] at h; cases h
 | some y=>rw [e] at h; cases h; exact ⟨y,rfl,rfl⟩
theorem qmS {ns:List Int}{i:Nat}(h:i < ns.length):(iv ns)[i]?=some (.int ns[i]):=by rw [List.getElem?_map,List.getElem?_eq_getElem h]; rfl
theorem qdi {ns:List Int}{i:Nat}(h:i < ns.length):atI (iv ns) (i:Int)=some (.int (ns.getD i 0)):=by
 rw [qdq (qmS h),qaa h]
theorem qiD (ns:List Int)(k:Nat):(iv ns).take k=iv (ns.take k):=List.map_take.symm
theorem cut_take {xs:List V}{k:Nat}(h:k≤xs.length):cutV xs none (some (k:Int))=xs.take k:=by
 unfold cutV
 rw [HT.sIx_nat,HT.sIx_none]
 simp only [List.drop_zero,Nat.sub_zero]
 rw [Nat.min_eq_left h]
end L2
namespace My
open PySem L2 MA
theorem lz {m:Nat}(n:Nat)(h:m=n)(hn:n≤100:=by decide):m≤sizeLine:=by
 rw [h,sizeLine_eq]; omega
theorem lzz {m:Nat}(h:m≤10000):m≤sizeLine:=by rw [sizeLine_eq]; omega
theorem lzl {m:Nat}(h:m≤10000):m < sizeLine:=by rw [sizeLine_eq]; omega
end My
namespace L2
open PySem PySem.Spec PyProof.Rows MA
end L2
namespace HT
open PySem PySem.Spec PyProof.Rows
section
variable {prog:Program}{w:World}{A:Around}{E:Value->Shared->Prop}{s:Shared}
theorem getItem_tuple_all {t sl:Addr}{items:Array Value}{vl vu:Value}{lo hi:Option Int}{Q:Value->Shared->Prop}(ht:IsTup s.heap t items)(hs:s.heap.IsSliceOf sl vl vu .none)(pl:IsPart vl lo)(pu:IsPart vu hi)
  (hw:sIx items.size 0 lo=0/\sIx items.size items.size hi=items.size) (h:Q (.ref t) s):wpAny (model prog w) A (getItem (.ref t) (.ref sl)) Q E s:=by
 obtain ⟨os,q1,q2,q3⟩:=id hs
 have T:s.TypeIs (.ref sl) "slice" := ⟨os,q1,q2⟩
 unfold getItem
 try with_reducible refine wpAny_holding ?_
 first | refine wpAny_bind (wpAny_pure ?_) | skip
 refine wpAny_bind (wpAny_sequenceKey ht.typeIs (by decide) (wpAny_bind (wpAny_callSpecial?_slot (name:=Str.ofString "__getitem__") ht.typeIs PyProof.Rows.slot_tuple_getitem (wpAny_call_entry PyProof.Rows.slot_tuple_getitem ht.typeIs entry_tuple_getitem ?_ (args_tuple_getitem _ _)))))
 refine wpAny_bind (m:=Builtin.Tuple.tupleItemsOf (.ref t)) (tupleItemsOf_ ht (wpAny_bind (wpAny_typeOf T ?_)))
 rw [if_pos (by decide)]
 refine wpAny_bind (qbF hs pl pu ?_)
 show wpAny (model prog w) _ (if (((sIx items.size 0 lo:Nat):Int) == 0 && (1:Int) == 1 && (sIx items.size items.size hi - sIx items.size 0 lo) == items.size)=true then _ else _) _ _ s
 rw [if_pos (by rw [hw.1,hw.2]; simp)]
 refine wpAny_bind (m:=Builtin.Tuple.tupleIsExact (.ref t)) ?_
 unfold Builtin.Tuple.tupleIsExact
 refine wpAny_bind (wpAny_typeOf ht.typeIs (wpAny_pure ?_))
 rw [if_pos (by decide)]
 exact wpAny_bind (wpAny_rule (wpAny_pure ⟨_,rfl,wpAny_pure h⟩))
end
end HT
namespace L2
open PySem PySem.Spec PyProof.Rows MA
theorem qhQ {X:Cx}:SlR X (fun x lo hi H Q=>∃ a xs,x = .ref a/\H a=some (.tup xs)/\∀ c H',Same H H'->H' c=some (.tup (cutV xs lo hi))->Q (.ref c) H'):=by
 intro pins s σ H x v vl vu lo hi sl Q I rx hs pl pu h
 obtain ⟨a,xs,e,hx,q⟩:=h
 by_cases hw:HT.sIx xs.length 0 lo=0/\HT.sIx xs.length xs.length hi=xs.length
 ·subst e
  cases rx
  obtain ⟨its,r,ht,hz⟩:=I.tuple (SqT.of (K:=X.K) hx)
  have hlen:its.toArray.size=xs.length:=by rw [List.size_toArray]; exact r.length.symm
  refine ⟨"tuple",_,PyProof.Rows.slot_tuple_getitem.lookup,ht.typeIs,HT.getItem_tuple_all ht hs pl pu (by rw [hlen]; exact hw) ⟨.ref a,H,I,rfl,q a H (Same.refl _) ?_⟩⟩
  have:cutV xs lo hi=xs:=by
   unfold cutV
   rw [hw.1,hw.2]
   simp
  rw [this]
  exact hx
 ·exact qmw pins s σ H x v vl vu lo hi sl Q I rx hs pl pu ⟨a,xs,e,SqT.of hx,hw,fun p hp=>q p _ (sN hp _) uS⟩
section
variable {X:Cx}{e:Expr}{te:TE}{p2 p3 p4 pos:Pos}
theorem qic:OpR X (binaryOp .Add) (fun x y H Q=>∃ a b xs ys,x = .ref a/\y = .ref b/\H a=some (.tup xs)/\H b=some (.tup ys)/\xs.length + ys.length≤1000/\∀ c H',Same H H'->H' c=some (.tup (xs ++ ys))->Q (.ref c) H'):=by
 intro pins s σ H x y v u Q I rx ry h
 obtain ⟨a,b,xs,ys,e1,e2,ha,hb,hz,q⟩:=h
 refine qjV pins s σ H x y v u Q I rx ry ⟨a,b,xs,ys,e1,e2,SqT.of ha,SqT.of hb,by rw [sizeLine_eq]; omega,fun e=>?_,fun _ e=>?_,fun _ _ p hp=>?_⟩
 ·subst e; exact q b H (Same.refl _) (by simpa using hb)
 ·subst e; exact q a H (Same.refl _) (by simpa using ha)
 ·exact q p _ (sN hp _) uS
theorem rep1 (x:Int):∀ k:Nat,(List.replicate k [V.int x]).flatten=iv (List.replicate k x)
 | 0=>rfl
 | k + 1=>by rw [List.replicate_succ,List.flatten_cons,rep1 x k,List.replicate_succ]; rfl
theorem qcI:qb5 X (.builtin "sorted") (fun xs H Q=>∃ (l:Addr) (ns:List Int),xs=[.ref l]/\H l=some (.lst (iv ns))/\ns.length < 64/\∀ (q:Addr) (ms:List Int),H q=none->ms.Perm ns->ms.Pairwise (·≤·)->Q (.ref q) (upd H q (.lst (iv ms)))):=by
 intro pins s σ H xs us Q I r h
 obtain ⟨l,ns,rfl,hl,h64,q⟩:=h
 obtain ⟨u,rfl,ru⟩:=vals1 r
 cases ru
 obtain ⟨its,rv,pl,hz⟩:=I.list (SqL.of (K:=X.K) hl)
 have hlen:=rv.length
 rw [List.length_map] at hlen
 refine sorted_ints pl.isList (intsAre_of rv) (by omega) fun out ms a1 a2 a3=>?_
 obtain ⟨ee,he'⟩:=sortedAll_at s.heap its out
 have hml:ms.length=ns.length:=a2.length_eq
 refine ⟨.ref (s.heap.objs.size + 1),_,I.laid (t':=s.toks) (a:=s.heap.objs.size + 1) (o := .lst (iv ms)) (fun b o q=>sortedAll_old q) (Nat.le_succ _) ⟨?_,out.toList,ee,qb6 a1,?_⟩,rfl,q _ ms (I.hok.fresh (Nat.le_succ _)) a2 a3⟩
 ·rw [List.length_map,hml,sizeLine_eq]; omega
 ·rw [he']
end
end L2
namespace L2
open PySem PySem.Spec PyProof.Rows
abbrev TB:=St->Hp->(St->Hp->Prop)->Prop
def PB (X:Cx)(p:Addr)(body:Value->Env->Sem Unit)(t:TB):Prop :=
 ∀ (pins:List (Addr × Obj)) (s:Shared) (σ:St) (H:Hp) (Q:St->Hp->Prop),Inv X pins σ H s->t σ H Q ->
  wpAny (model X.prog X.w) X.A (body (.ref p) X.env) (fun _ s'=>∃ σ' H',Inv X pins σ' H' s'/\Q σ' H') X.xe s
def qfW (J:It)(g:TG)(tc:TT)(tb:TB)(σ:St)(H:Hp)(Q:St->Hp->Prop):Prop :=
 ∃ W:Nat->Nat->St->Hp->Prop,(∃ m,W 0 m σ H)/\∀ i m σ' H',W i m σ' H' ->
  (J.stop i H'/\Q σ' H')\/(J.go i H'/\∀ x H2,J.yld i H' x H2->g x σ' H2 fun σ2 H3=>tc σ2 H3 fun b H4=>if b=true then tb σ2 H4 fun σ5 H5=>∃ m',m' < m/\W (i + 1) m' σ5 H5 else ∃ m',m' < m/\W (i + 1) m' σ2 H4)
def qm1 (elt:Expr):Value->Env->Sem Unit:=fun acc env=>do let _ <- call (.builtin "list.append") [acc,<- eval elt env]
def qlf (p:Addr)(te:TE):TB:=fun σ H Q=>te σ H fun v H5=>∃ ys,ys.length < sizeLine/\H5 p=some (.lst ys)/\Q σ (upd H5 p (.lst (ys ++ [v])))
theorem qlz {X:Cx}{p:Addr}{elt:Expr}{te:TE}(he:PE X elt te):PB X p (qm1 elt) (qlf p te):=by
 intro pins s σ H Q I h
 refine wpAny_bind (thn (he pins s σ H _ I h) fun y s8 h8=>?_)
 obtain ⟨v,H8,I8,r8,ys,hz,hH8,w8⟩:=h8
 refine wpAny_bind (thn (qbM (X:=X) _ s8 σ H8 (.ref p) [v] (.ref p) [y] (fun x H9=>x = .non/\H9=upd H8 p (.lst (ys ++ [v]))) I8 rfl (.cons r8 .nil) ⟨p,ys,v,rfl,rfl,hH8,hz,rfl,rfl⟩) fun _ s9 h9=>?_)
 obtain ⟨z,H9,I9,_,_,e9⟩:=h9
 subst e9
 exact wpAny_pure ⟨σ,_,I9,w8⟩
def qcA (e:Expr)(d:Nat)(tg iter:Expr)(ifs:List Expr)(body:Value->Env->Sem Unit)(it acc:Value)(env:Env):Sem Fin:=do
 standAt iter.pos
 match <- pyNext it with
 | none=>pure (.done .next)
 | some v =>
  letOwnedTupleGo tg it v
  assign tg env v
  let mut ok:=true
  for c in ifs do
   if ok then ok <- isTrue c env (eval c env)
  if ok then
   body acc env
  again (.compLoop e d it acc env)
def twoL (e:Expr)(iter:Expr):Value->Env->Sem Unit:=fun acc env=>do
 let x <- eval iter env
 standAt iter.pos
 let x <- foldedSetIterable iter env x
 let _ <- runOwn (.compStart e 1 (<- holding [x] (pyIter x)) acc env) env
theorem qhv (elt tg iter tg2 iter2:Expr)(ifs ifs2:List Expr)(scope:Scope)(pos:Pos)(it acc:Value)(env:Env) :
  compTurn (.ListComp elt [⟨tg,iter,ifs,0⟩,⟨tg2,iter2,ifs2,0⟩] scope pos) 0 it acc env=qcA (.ListComp elt [⟨tg,iter,ifs,0⟩,⟨tg2,iter2,ifs2,0⟩] scope pos) 0 tg iter ifs (twoL (.ListComp elt [⟨tg,iter,ifs,0⟩,⟨tg2,iter2,ifs2,0⟩] scope pos) iter2) it acc env:=by
 unfold qcA
 refine congrArg (standAt iter.pos >>= ·) (funext fun _=>congrArg (pyNext it >>= ·) (funext fun r=>?_))
 cases r with
 | none=>rfl
 | some v =>
  refine congrArg (letOwnedTupleGo tg it v >>= ·) (funext fun _=>congrArg (assign tg env v >>= ·) (funext fun _=>congrArg (_ >>= ·) (funext fun ok=>?_)))
  cases ok with
  | false=>rfl
  | true =>
   rw [if_pos rfl,if_pos rfl]
   simp only [twoL,bind_assoc]
   rfl
theorem qhu (elt tg iter tg2 iter2:Expr)(ifs ifs2:List Expr)(scope:Scope)(pos:Pos)(it acc:Value)(env:Env) :
  compTurn (.ListComp elt [⟨tg,iter,ifs,0⟩,⟨tg2,iter2,ifs2,0⟩] scope pos) 1 it acc env=qcA (.ListComp elt [⟨tg,iter,ifs,0⟩,⟨tg2,iter2,ifs2,0⟩] scope pos) 1 tg2 iter2 ifs2 (qm1 elt) it acc env:=by rfl
theorem qjA {M:Model}{A:Around}{R:Result->Shared->Prop}{s:Shared}{e:Expr}{d:Nat}{g:Comprehension}{it acc:Value}{env:Env}(hg:(clausesOf e)[d]?=some g)(ha:g.is_async=0)
  (h0:codeAny M A (.compLoop e d it acc env) R s) (hden:M.den (.compStart e d it acc env)=(compStart e d it acc env).onRaise (fun x=>do noteFrame x env; standAt theWindowsPlace)) (hun:A.under (.compStart e d it acc env)=A) (hq:Code.quiet (.compLoop e d it acc env)=true)
  (h:wpAny M A (pyIter it) (fun it' s'=>codeAny M A (.compLoop e d it' acc env) R s') (notedBy M A env fun x s'=>R (.error x) s') s) (hq':∀ it',Code.quiet (.compLoop e d it' acc env)=true):codeAny M A (.compStart e d it acc env) R s:=by
 refine codeAny_of_tree ?_
 rw [hden,hun]
 refine wpAny_notedAt ?_
 unfold compStart
 rw [hg]
 simp only [Option.elim,ha]
 show wpAny _ _ (ask >>= _) _ _ s
 refine wpAny_bind (wpAny_askSetting (wpAny_ite ?_))
 split
 ·first
   | exact wpAny_bind (wpAny_pure (wpAny_pure ⟨hq,h0⟩))
   | exact wpAny_pure ⟨hq,h0⟩
 ·refine wpAny_bind (wpAny_rule ?_)
  show wpAny _ _ (standAt g.iter.pos >>= _) _ _ s
  exact wpAny_bind (wpAny_standAt (wpAny_bind (wpAny_mono h (fun it' s' h'=>wpAny_pure ⟨hq' it',h'⟩) fun _ _ x=>x)))
theorem qiw {X:Cx}{elt tg iter:Expr}{gens:List Comprehension}{scope:Scope}{pos:Pos}{d:Nat}{ifs:List Expr}{body:Value->Env->Sem Unit}{J:It}{fp:List Addr}{it p:Addr}{tn:Nat->Heap->Prop}{g:TG}{tc:TT}{tb:TB}{pins:List (Addr × Obj)}{s:Shared}{σ:St}{H:Hp}{Q:St->Hp->Prop}{R:Result->Shared->Prop}
  (hturn:compTurn (.ListComp elt gens scope pos) d (.ref it) (.ref p) X.env=qcA (.ListComp elt gens scope pos) d tg iter ifs body (.ref it) (.ref p) X.env) (hc:X.calm=true) (hxe:∀ e s,X.xe e s->False) (T:Turn X.prog X.w X.K tg J fp it tn) (hg:PG X tg g) (ht:PTs X ifs tc) (hb:PB X p body tb)
  (I:Inv X pins σ H s) (st:tn 0 s.heap) (f2:∀ b∈fp,FpOk X pins H b) (h:qfW J g tc tb σ H Q) (hR:∀ s' σ' H',Inv X pins σ' H' s'->Q σ' H'->R (.ok .next) s') :
  codeAny (model X.prog X.w) X.A (.compLoop (.ListComp elt gens scope pos) d (.ref it) (.ref p) X.env) R s:=by
 obtain ⟨W,⟨m0,w0⟩,turn⟩:=h
 have stat:∀ {H':Hp},(∀ b∈fp,H' b=none)->∀ b∈fp,FpOk X pins H' b:=fun hn b hb=>⟨hn b hb,(f2 b hb).2⟩
 refine codeAny_loop rfl (fun n s'=>∃ i σ' H',Inv X pins σ' H' s'/\tn i s'.heap/\(∀ b∈fp,H' b=none)/\W i n σ' H') (fun n s' hI=>?_) m0 ⟨0,σ,H,I,st,fun b hb=>(f2 b hb).1,w0⟩
 obtain ⟨i,σ',H',J',st',fr',w'⟩:=hI
 show wpAny _ X.A ((compTurn (.ListComp elt gens scope pos) d (.ref it) (.ref p) X.env).onRaise (fun x=>do noteFrame x X.env; theTreesLotGoes x)) _ _ s'
 refine wpAny_noted ?_
 rw [hturn]
 unfold qcA
 rcases turn i n σ' H' w' with ⟨stop,q⟩ | ⟨go,step⟩
 ·refine wpAny_bind (wpAny_standAt (wpAny_bind (wpAny_mono (T.done X rfl rfl rfl hc i pins s' σ' H' X.xe J' (stat fr') st' stop) (fun r s4 h4=>?_) fun _ _ x=>(hxe _ _ x).elim)))
  obtain ⟨hr,I4⟩:=h4
  subst hr
  exact wpAny_pure (hR s4 σ' H' I4 q)
 ·refine wpAny_bind (wpAny_standAt (wpAny_bind (wpAny_mono (T.item X rfl rfl rfl hc i pins s' σ' H' X.xe J' (stat fr') st' go) (fun r s4 h4=>?_) fun _ _ x=>(hxe _ _ x).elim)))
  obtain ⟨u,hr,h4⟩:=h4
  subst hr
  refine wpAny_bind (wpAny_mono h4 (fun _ s5 h5=>?_) fun _ _ x=>(hxe _ _ x).elim)
  obtain ⟨x,H5,I5,r5,y5,st5,fr5⟩:=h5
  have I5':=I5.pinned (stat fr5) (T.obj _ _ st5)
  refine wpAny_bind (wpAny_mono (hg _ s5 σ' H5 x u _ I5' r5 (step x H5 y5)) (fun _ s6 h6=>?_) fun _ _ x=>(hxe _ _ x).elim)
  obtain ⟨σ6,H6,I6,q6⟩:=h6
  have again:∀ {σ7:St} {H7:Hp} {s7:Shared},Inv X (pins ++ qcf fp s5.heap) σ7 H7 s7->(∃ m',m' < n/\W (i + 1) m' σ7 H7) ->
    ∃ m,m < n/\∃ i σ' H',Inv X pins σ' H' s7/\tn i s7.heap/\(∀ b∈fp,H' b=none)/\W i m σ' H':=fun {σ7 H7 s7} I7 n7=>by
   obtain ⟨m',hm,w7⟩:=n7
   refine ⟨m',hm,i + 1,σ7,H7,I7.unpinned,T.keep _ _ _ st5 fun b hb o e=>(I7.pin (b,o) (List.mem_append_right _ (List.mem_append_right _ (qaH hb e)))).1,fun b hb=>?_,w7⟩
   obtain ⟨o,e,d⟩:=T.obj _ _ st5 b hb
   exact (I7.pin (b,o) (List.mem_append_right _ (List.mem_append_right _ (qaH hb e)))).2.1
  refine wpAny_bind (wpAny_mono (ht _ s6 σ6 H6 _ I6 q6) (fun ok s7 h7=>?_) fun _ _ x=>(hxe _ _ x).elim)
  obtain ⟨H7,I7,q7⟩:=h7
  cases ok with
  | false =>
   rw [if_neg Bool.false_ne_true] at q7
   exact wpAny_pure ⟨rfl,again I7 q7⟩
  | true =>
   rw [if_pos rfl] at q7
   refine wpAny_bind (wpAny_mono (hb _ s7 σ6 H7 _ I7 q7) (fun y s8 h8=>?_) fun _ _ x=>(hxe _ _ x).elim)
   obtain ⟨σ8,H8,I8,w8⟩:=h8
   exact wpAny_pure ⟨rfl,again I8 w8⟩
def tTwo (wi:TI)(g:TG)(tc:TT)(tb:TB):TB:=fun σ H Q=>wi σ H fun J H1=>qfW J g tc tb σ H1 Q
theorem qmG {X:Cx}{elt tg iter tg2 iter2:Expr}{ifs ifs2:List Expr}{scope:Scope}{pos:Pos}{p:Addr}{wi:TI}{g:TG}{tc:TT}{te:TE}(hc:X.calm=true)(hxe:∀ e s,X.xe e s->False)(hi:PI X tg2 iter2 wi)(hg:PG X tg2 g)(ht:PTs X ifs2 tc)(he:PE X elt te)
  (hs:∀ x,foldedSetIterable iter2 X.env x=pure x):PB X p (twoL (.ListComp elt [⟨tg,iter,ifs,0⟩,⟨tg2,iter2,ifs2,0⟩] scope pos) iter2) (tTwo wi g tc (qlf p te)):=by
 intro pins s σ H Q I h
 unfold twoL
 refine wpAny_bind (thn (hi pins s σ H _ I h) fun v s1 h1=>wpAny_bind (wpAny_standAt (wpAny_bind (wpAny_of_eq (hs v) (wpAny_bind (wpAny_holding (thn h1 fun itv s2 h2=>?_)))))))
 obtain ⟨it,fp,tn,J,H2,e,I2,T,st2,f2,h3⟩:=h2
 subst e
 refine wpAny_bind (wpAny_runOwn ?_)
 have loop:codeAny (model X.prog X.w) X.A (.compLoop (.ListComp elt [⟨tg,iter,ifs,0⟩,⟨tg2,iter2,ifs2,0⟩] scope pos) 1 (.ref it) (.ref p) X.env) (fun r s'=>match r with | .ok f=>wpAny (model X.prog X.w) X.A (pure ()) (fun _ s'=>∃ σ' H',Inv X pins σ' H' s'/\Q σ' H') X.xe s' | .error e=>cameBackBy (model X.prog X.w) X.A X.env X.xe e s') s2 :=
  qiw (qhu _ _ _ _ _ _ _ _ _ _ _ _) hc hxe T hg ht (qlz he) I2 st2 f2 h3 fun s' σ' H' I' q'=>wpAny_pure ⟨σ',H',I',q'⟩
 exact qjA (g:=⟨tg2,iter2,ifs2,0⟩) rfl rfl loop rfl rfl rfl (T.self X.A 0 _ _ _ st2 loop) fun _=>rfl
def qkH (σ0:St->St)(wi:TI)(g:TG)(tc:TT)(wi2:TI)(g2:TG)(tc2:TT)(te:TE):TE:=fun σ H Q=>wi σ H fun J H1=>∀ p,H1 p=none->qfW J g tc (tTwo wi2 g2 tc2 (qlf p te)) (σ0 σ) (upd H1 p (.lst [])) fun _ H'=>Q (.ref p) H'
theorem qhf {X:Cx}{elt tg iter tg2 iter2:Expr}{ifs ifs2:List Expr}{scope:Scope}{pos pos2:Pos}{wi wi2:TI}{g g2:TG}{tc tc2:TT}{te:TE}{N:List Str}{σ0:St->St}{pins:List (Addr × Obj)}{s:Shared}{σ:St}{H:Hp}{Q:VK}{use:Option (Value->Sem Unit)}{QQ:Value->Shared->Prop}
  (hc:X.calm=true) (hxe:∀ e s,X.xe e s->False) (hcell:∀ y∈scope.names,y.2 ≠ .cell) (hkind:scope.kind = .function) (hnames:∀ y∈scope.names,y.2 = .local->scope.names.lookup y.1=some .local)
  (hfr:∀ y∈scope.names,y.2 = .free->X.env.kindOf y.1=some .cell\/X.env.kindOf y.1=some .free) (hσ:Sees X scope N σ0)
  (hi:PI X tg iter wi)
  (hg:∀ cl C s H ex,PG (qah X scope N cl C s H ex) tg g) (ht:∀ cl C s H ex,PTs (qah X scope N cl C s H ex) ifs tc) (hi2:∀ cl C s H ex,PI (qah X scope N cl C s H ex) tg2 iter2 wi2) (hg2:∀ cl C s H ex,PG (qah X scope N cl C s H ex) tg2 g2) (ht2:∀ cl C s H ex,PTs (qah X scope N cl C s H ex) ifs2 tc2) (he:∀ cl C s H ex,PE (qah X scope N cl C s H ex) elt te)
  (hs:∀ x,foldedSetIterable iter X.env x=pure x) (hs2:∀ env x,foldedSetIterable iter2 env x=pure x) (I:Inv X pins σ H s) (h:qkH σ0 wi g tc wi2 g2 tc2 te σ H Q)
  (hend:∀ (p C:Addr) (H':Hp) (s':Shared) (m:Str->Option Value) (f:Flow),Inv X pins σ H' s'->FpOk X pins H' C->s'.heap.Ns C m->(∀ h',Heap.SameBut C s'.heap h'->Inv X pins σ H' { s' with heap:=h' })->Q (.ref p) H' ->
    compPost (model X.prog X.w) X.A X.xe use QQ (.ref p) C (.ok f) s') :
  wpAny (model X.prog X.w) X.A (comprehension (.ListComp elt [⟨tg,iter,ifs,0⟩,⟨tg2,iter2,ifs2,0⟩] scope pos) scope X.env pos2 (newList []) false (eval iter X.env) use) QQ X.xe s:=by
 obtain ⟨cl,hclos,hcl1,hcl2⟩:=qbu (env:=X.env) (scope:=scope) fun y hy hf=>I.ok.has y.1 (hfr y hy hf)
 refine wpAny_comprehension_free (use:=use) rfl hs hclos hkind hnames (thn (hi pins s σ H _ I h) fun v s1 h1=>thn h1 fun itv s2 h2=>?_)
 obtain ⟨it,fp,tn,J,H2,e,I2,T,st2,f2,h3⟩:=h2
 subst e
 have hpn:H2 s2.heap.objs.size=none:=I2.hok.fresh (Nat.le_refl _)
 have h4:=h3 _ hpn
 refine wpAny_newObj_type ?_
 generalize hp:s2.heap.objs.size=p at *
 have I3:Inv X pins σ (upd H2 p (.lst [])) { s2 with heap:=s2.heap.push { cls := .type "list",dict:=none,data := .seq ([]:List Value).toArray } }:=by
  refine I2.laid (a:=p) (o := .lst []) (t':=s2.toks) (fun b u q=>Heap.get?_push_of_some _ q) (Nat.le_of_eq hp) ⟨Nat.zero_le _,[],0,.nil,?_⟩
  rw [<- hp]
  exact Heap.get?_push_size _ rfl
 have hf3:∀ b∈fp,FpOk X pins (upd H2 p (.lst [])) b:=fun b hb=>by
  obtain ⟨o,ho,_⟩:=T.obj _ _ st2 b hb
  have:b≠p:=by rw [<- hp]; exact Nat.ne_of_lt (Heap.lt_size ho)
  exact ⟨by rw [uE this]; exact (f2 b hb).1,(f2 b hb).2⟩
 generalize hs3:({ s2 with heap:=s2.heap.push { cls := .type "list",dict:=none,data := .seq ([]:List Value).toArray } }:Shared)=s3 at *
 have st3:tn 0 s3.heap:=by rw [<- hs3]; exact T.keep _ _ _ st2 fun b _ o e=>Heap.get?_push_of_some _ e
 generalize hH3:upd H2 p (.lst [])=H3 at *
 refine wpAny_newFunctionEnv hcell (by intro y hy; simp at hy) (fun h1 hns1 hsb1=>?_) hkind
 generalize hC:s3.heap.objs.size=C at *
 have keep:∀ b u,s3.heap.get? b=some u->h1.get? b=some u:=fun b u q =>
  hsb1.extBut b u (by rw [<- hC]; exact Nat.ne_of_lt (Heap.lt_size q)) (Heap.get?_push_of_some _ q)
 have fpC:∀ b∈fp,b≠C:=fun b hb=>by
  obtain ⟨o,ho,_⟩:=T.obj _ _ st3 b hb
  rw [<- hC]; exact Nat.ne_of_lt (Heap.lt_size ho)
 have hCn:H3 C=none:=I3.hok.fresh (Nat.le_of_eq hC)
 have ok':(qah X scope N cl C s3 H3 fp).Ok:=by
  refine ⟨I3.mod,hkind,I3.ok.glob,I3.ok.blt,Nat.le_of_eq hC,fun x y c a b=>I3.ok.inj x y c (hcl1 x c a) (hcl1 y c b),fun x hx=>?_,fun _ _ z=>Bool.noConfusion (show false=true from z),I3.ok.hd,I3.ok.frames,.inl rfl,fun b hb=>⟨fpC b hb,fun x c q=>(hf3 b hb).2.2.2.2.1 x c (hcl1 x c q)⟩,
   I3.bs,Nat.le_trans I3.ok.bsz I3.sz,fun b o e hb=>?_,fun b hb z=>?_,I3.stack,I3.stkFree⟩
  ·have hx':(relabel scope X.env).names.lookup x=some .cell\/(relabel scope X.env).names.lookup x=some .free:=hx
   rcases hx' with z | z
   ·rcases qaj z with y | ⟨_,y⟩
    ·exact absurd rfl (hcell _ y)
    ·exact hcl2 x y
   ·rcases qaj z with y | ⟨y,_⟩
    ·exact hcl2 x y
    ·cases y
  ·rcases (hf3 b hb).2.2.2.1 with z | z
   ·exact I3.ok.noex b o e z
   ·exact absurd (Nat.lt_of_lt_of_le (Heap.lt_size e) (Nat.le_trans I3.ok.bsz z)) (Nat.lt_irrefl _)
  ·rcases List.mem_cons.mp (I3.stkSub b z) with q | q
   ·exact (hf3 b hb).2.1 q
   ·exact (hf3 b hb).2.2.1 q
 have J0:Inv (qah X scope N cl C s3 H3 fp) [] (σ0 σ) H3 { s3 with heap:=h1,toks:=s3.toks + ([]:List (Str × Value)).length }:=by
  refine ⟨ok',rfl,I3.bare,Un.kept keep,⟨_,hns1,fun i x v a b c=>?_⟩,fun x c q=>?_,hCn,fun x c q=>I3.freeC x c (hcl1 x c q),fun q hq=>absurd (show q∈([]:List (Addr × Obj)) from hq) (by simp),I3.hok.kept keep,(hσ σ).1⟩
  ·obtain ⟨hf,j,hj,hv⟩:=(hσ σ).2 i x v a b
   have hm:=qaQ hf
   obtain ⟨m,hn,hl⟩:=id I3.loc
   have hk:=hfr _ hm rfl
   have hvis:Vis X.env.scope x:=hk.elim (fun z => .inr (.inl z)) fun z => .inr (.inr z)
   obtain ⟨u,r,lk⟩:=hl j x v hj hv hvis
   refine ⟨u,r,.inr ⟨qar hf,?_⟩⟩
   obtain ⟨c',hc'⟩:=hcl2 x hm
   refine ⟨c',hc',?_⟩
   have hx:=hcl1 x c' hc'
   rcases lk with ⟨kl,_⟩ | ⟨_,c2,e2,o2,ho2,hd2⟩
   ·rcases hk with z | z <;> rw [kl] at z <;> cases z
   ·rw [hx] at e2
    cases e2
    exact ⟨o2,keep _ _ ho2,hd2⟩
  ·obtain ⟨v,o,ho,hd⟩:=I3.cell x c (hcl1 x c q)
   exact ⟨v,o,keep _ _ ho,hd⟩
 have st4:tn 0 h1:=T.keep _ _ _ st3 fun b _ o e=>keep b o e
 have stat:∀ {H':Hp},(∀ b∈fp,H' b=none)->∀ b∈fp,FpOk (qah X scope N cl C s3 H3 fp) [] H' b:=fun hn b hb =>
  ⟨hn b hb,fpC b hb,fun z=>ok'.exfs b hb z,.inl hb,fun x c q=>(hf3 b hb).2.2.2.2.1 x c (hcl1 x c q),fun q hq=>absurd (show q∈([]:List (Addr × Obj)) from hq) (by simp)⟩
 have back:∀ {σ':St} {H':Hp} {s':Shared} {pl:List (Addr × Obj)},Inv (qah X scope N cl C s3 H3 fp) pl σ' H' s'->∀ h',Heap.SameBut C s'.heap h'->Inv X pins σ H' { s' with heap:=h' }:=fun {σ' H' s' pl} J h' hsb=>by
  have I5:Inv X pins σ H' s':=Inv.call' (ch:=fp) I3 J.os J.base J.hok J.bare fun b hb=>⟨(hf3 b hb).2.2.2.1,(hf3 b hb).2.1,(hf3 b hb).2.2.2.2.1,(hf3 b hb).2.2.2.2.2⟩
  refine Inv.turned (it:=C) (t':=s'.toks) I5 (fun b o hb e=>hsb.extBut b o hb e) J.free (fun z=>?_) (.inr ?_) (fun x c q z=>?_) fun q hq z=>?_
  ·exact absurd (show X.env.locals < C by rw [<- hC]; exact I3.lt) (by rw [z]; exact Nat.lt_irrefl _)
  ·rw [<- hC]; exact I3.sz
  ·obtain ⟨v,o,ho,_⟩:=I3.cell x c q
   have:=Heap.lt_size ho
   rw [z,hC] at this
   exact Nat.lt_irrefl _ this
  ·have:=Heap.lt_size (I3.pin q hq).1
   rw [z,hC] at this
   exact Nat.lt_irrefl _ this
 have ff:∀ b∈fp,FpOk (qah X scope N cl C s3 H3 fp) [] H3 b:=stat fun b hb=>(hf3 b hb).1
 have loop:codeAny (model X.prog X.w) X.A (.compLoop (.ListComp elt [⟨tg,iter,ifs,0⟩,⟨tg2,iter2,ifs2,0⟩] scope pos) 0 (.ref it) (.ref p) (compEnvC scope cl C X.env)) (compPost (model X.prog X.w) X.A X.xe use QQ (.ref p) C) { s3 with heap:=h1,toks:=s3.toks + ([]:List (Str × Value)).length }:=by
  refine qiw (X:=qah X scope N cl C s3 H3 fp) (Q:=fun _ H'=>Q (.ref p) H') (qhv _ _ _ _ _ _ _ _ _ _ _ _) hc hxe T (hg cl C s3 H3 fp) (ht cl C s3 H3 fp) (qmG hc hxe (hi2 cl C s3 H3 fp) (hg2 cl C s3 H3 fp) (ht2 cl C s3 H3 fp) (he cl C s3 H3 fp) (hs2 _)) J0 st4 ff h4 ?_
  intro s4 σ' H' I4 q
  obtain ⟨m,hn,_⟩:=id I4.loc
  have I5:Inv X pins σ H' s4:=Inv.call' (ch:=fp) I3 I4.os I4.base I4.hok I4.bare fun b hb=>⟨(hf3 b hb).2.2.2.1,(hf3 b hb).2.1,(hf3 b hb).2.2.2.2.1,(hf3 b hb).2.2.2.2.2⟩
  exact hend p C H' s4 m _ I5 (I3.fpOk (Nat.le_of_eq hC) I4.free) hn (fun h' hsb=>back I4 h' hsb) q
 exact codeAny_compStart_list loop (T.self X.A 0 _ _ _ st4 loop)
theorem qjR {X:Cx}{elt tg iter tg2 iter2:Expr}{ifs ifs2:List Expr}{scope:Scope}{pos:Pos}{wi wi2:TI}{g g2:TG}{tc tc2:TT}{te:TE}{N:List Str}{σ0:St->St}
  (hc:X.calm=true) (hxe:∀ e s,X.xe e s->False) (hcell:∀ y∈scope.names,y.2 ≠ .cell) (hkind:scope.kind = .function) (hnames:∀ y∈scope.names,y.2 = .local->scope.names.lookup y.1=some .local)
  (hfr:∀ y∈scope.names,y.2 = .free->X.env.kindOf y.1=some .cell\/X.env.kindOf y.1=some .free) (hσ:Sees X scope N σ0)
  (hi:PI X tg iter wi)
  (hg:∀ cl C s H ex,PG (qah X scope N cl C s H ex) tg g) (ht:∀ cl C s H ex,PTs (qah X scope N cl C s H ex) ifs tc) (hi2:∀ cl C s H ex,PI (qah X scope N cl C s H ex) tg2 iter2 wi2) (hg2:∀ cl C s H ex,PG (qah X scope N cl C s H ex) tg2 g2) (ht2:∀ cl C s H ex,PTs (qah X scope N cl C s H ex) ifs2 tc2) (he:∀ cl C s H ex,PE (qah X scope N cl C s H ex) elt te)
  (hs:∀ x,foldedSetIterable iter X.env x=pure x:=by intro _; rfl) (hs2:∀ env x,foldedSetIterable iter2 env x=pure x:=by intro _ _; rfl):PE X (.ListComp elt [⟨tg,iter,ifs,0⟩,⟨tg2,iter2,ifs2,0⟩] scope pos) (qkH σ0 wi g tc wi2 g2 tc2 te):=by
 intro pins s σ H Q I h
 rw [eval_ListComp]
 refine qhf (use:=none) (QQ:=EP X pins σ Q) hc hxe hcell hkind hnames hfr hσ hi hg ht hi2 hg2 ht2 he hs hs2 I h ?_
 intro p C H' s' m f I5 fC hn back q
 exact ⟨m,hn,fun h' hsb=>⟨.ref p,H',back h' hsb,rfl,q⟩⟩
end L2
namespace L2
open PySem PySem.Spec PyProof.Rows MA
end L2
namespace L2
open PySem PySem.Spec PyProof.Rows MA SeqAt
end L2
namespace PySem
open Sem (wp)
namespace F
end F
end PySem
namespace L2
open PySem PySem.Spec PyProof.Rows MA
end L2
namespace L2
open PySem PySem.Spec PyProof.Rows
def ql9 (kx vx:Expr):Value->Env->Sem Unit:=fun acc env=>match acc with
 | .ref D=>do
  let kv <- eval kx env
  let vv <- holding [kv] (eval vx env)
  standAt { kx.pos with endLine:=vx.pos.endLine,endCol:=vx.pos.endCol }
  holding [kv,vv] (dictSet D kv vv)
 | _=>pure ()
def qkF (p:Addr)(tk tv:TE):TB:=fun σ H Q=>tk σ H fun k H1=>tv σ H1 fun v H2=>∃ (key:Key) (kvs:List (Key × V)),k=kV key/\H2 p=some (.dK kvs)/\kvs.length≤100000/\Q σ (upd H2 p (.dK (putK kvs key v)))
theorem qjT {X:Cx}{p:Addr}{kx vx:Expr}{tk tv:TE}(hk:PE X kx tk)(hv:PE X vx tv):PB X p (ql9 kx vx) (qkF p tk tv):=by
 intro pins s σ H Q I h
 show wpAny _ _ (do let kv <- eval kx X.env; let vv <- holding [kv] (eval vx X.env); standAt { kx.pos with endLine:=vx.pos.endLine,endCol:=vx.pos.endCol }; holding [kv,vv] (dictSet p kv vv)) _ _ s
 refine wpAny_bind (thn (hk pins s σ H _ I h) fun u s1 ⟨k,H1,I1,r1,h1⟩=>?_)
 refine wpAny_bind (wpAny_holding (thn (hv pins s1 σ H1 _ I1 h1) fun u' s2 ⟨v,H2,I2,r2,key,kvs,ek,hH,hz,q⟩=>?_))
 subst ek
 refine wpAny_bind (wpAny_standAt (wpAny_holding ?_))
 obtain ⟨z,hd,vs,rel,dd⟩:=qma I2.hok hH
 have hvl:kvs.length=vs.length:=Paired.length rel
 refine wpAny_dictSet_pairs (knd:=qap X.prog X.w) (qfL r1) dd (fun h' dd' hs=>?_) (by rw [sizeLine_eq]; omega)
 have he:∃ q,h'.get? p=some q:=let ⟨q,_,_,hq,_⟩:=dd'; ⟨q,hq⟩
 refine ⟨σ,_,qb3 I2 (by rw [hH]; exact True.intro) hs he (qiU ?_ hd ?_ dd'),q⟩
 ·have:=qbA [(key,v)] kvs
  simp only [List.length_singleton] at this
  show (qdg kvs [(key,v)]).length≤_
  rw [sizeLine_eq]; omega
 ·exact KV.merge (more:=[(key,v)]) (rs:=[(key,u')]) (.cons ⟨rfl,r2⟩ .nil) rel
theorem qkB (kx vx tg iter:Expr)(ifs:List Expr)(scope:Scope)(pos:Pos)(it:Value)(D:Addr)(env:Env) :
  compTurn (.DictComp kx vx [⟨tg,iter,ifs,0⟩] scope pos) 0 it (.ref D) env=qcA (.DictComp kx vx [⟨tg,iter,ifs,0⟩] scope pos) 0 tg iter ifs (ql9 kx vx) it (.ref D) env:=by
 rw [compTurn_dict]
 rfl
theorem qbZ {M:Model}{A:Around}{E:Value->Shared->Prop}{s:Shared}{Q:Value->Shared->Prop}(h:Q (.ref s.heap.objs.size) { s with heap:=s.heap.push { cls := .type "dict",data := .dict #[] } }):wpAny M A newDict Q E s :=
 wpAny_newObj_type h
theorem qgr {X:Cx}{kx vx tg iter:Expr}{gens:List Comprehension}{scope:Scope}{pos:Pos}{d:Nat}{ifs:List Expr}{body:Value->Env->Sem Unit}{J:It}{fp:List Addr}{it p:Addr}{tn:Nat->Heap->Prop}{g:TG}{tc:TT}{tb:TB}{pins:List (Addr × Obj)}{s:Shared}{σ:St}{H:Hp}{Q:St->Hp->Prop}{R:Result->Shared->Prop}
  (hturn:compTurn (.DictComp kx vx gens scope pos) d (.ref it) (.ref p) X.env=qcA (.DictComp kx vx gens scope pos) d tg iter ifs body (.ref it) (.ref p) X.env) (hc:X.calm=true) (hxe:∀ e s,X.xe e s->False) (T:Turn X.prog X.w X.K tg J fp it tn) (hg:PG X tg g) (ht:PTs X ifs tc) (hb:PB X p body tb)
  (I:Inv X pins σ H s) (st:tn 0 s.heap) (f2:∀ b∈fp,FpOk X pins H b) (h:qfW J g tc tb σ H Q) (hR:∀ s' σ' H',Inv X pins σ' H' s'->Q σ' H'->R (.ok .next) s') :
  codeAny (model X.prog X.w) X.A (.compLoop (.DictComp kx vx gens scope pos) d (.ref it) (.ref p) X.env) R s:=by
 obtain ⟨W,⟨m0,w0⟩,turn⟩:=h
 have stat:∀ {H':Hp},(∀ b∈fp,H' b=none)->∀ b∈fp,FpOk X pins H' b:=fun hn b hb=>⟨hn b hb,(f2 b hb).2⟩
 refine codeAny_loop rfl (fun n s'=>∃ i σ' H',Inv X pins σ' H' s'/\tn i s'.heap/\(∀ b∈fp,H' b=none)/\W i n σ' H') (fun n s' hI=>?_) m0 ⟨0,σ,H,I,st,fun b hb=>(f2 b hb).1,w0⟩
 obtain ⟨i,σ',H',J',st',fr',w'⟩:=hI
 show wpAny _ X.A ((compTurn (.DictComp kx vx gens scope pos) d (.ref it) (.ref p) X.env).onRaise (fun x=>do noteFrame x X.env; theTreesLotGoes x)) _ _ s'
 refine wpAny_noted ?_
 rw [hturn]
 unfold qcA
 rcases turn i n σ' H' w' with ⟨stop,q⟩ | ⟨go,step⟩
 ·refine wpAny_bind (wpAny_standAt (wpAny_bind (wpAny_mono (T.done X rfl rfl rfl hc i pins s' σ' H' X.xe J' (stat fr') st' stop) (fun r s4 h4=>?_) fun _ _ x=>(hxe _ _ x).elim)))
  obtain ⟨hr,I4⟩:=h4
  subst hr
  exact wpAny_pure (hR s4 σ' H' I4 q)
 ·refine wpAny_bind (wpAny_standAt (wpAny_bind (wpAny_mono (T.item X rfl rfl rfl hc i pins s' σ' H' X.xe J' (stat fr') st' go) (fun r s4 h4=>?_) fun _ _ x=>(hxe _ _ x).elim)))
  obtain ⟨u,hr,h4⟩:=h4
  subst hr
  refine wpAny_bind (wpAny_mono h4 (fun _ s5 h5=>?_) fun _ _ x=>(hxe _ _ x).elim)
  obtain ⟨x,H5,I5,r5,y5,st5,fr5⟩:=h5
  have I5':=I5.pinned (stat fr5) (T.obj _ _ st5)
  refine wpAny_bind (wpAny_mono (hg _ s5 σ' H5 x u _ I5' r5 (step x H5 y5)) (fun _ s6 h6=>?_) fun _ _ x=>(hxe _ _ x).elim)
  obtain ⟨σ6,H6,I6,q6⟩:=h6
  have again:∀ {σ7:St} {H7:Hp} {s7:Shared},Inv X (pins ++ qcf fp s5.heap) σ7 H7 s7->(∃ m',m' < n/\W (i + 1) m' σ7 H7) ->
    ∃ m,m < n/\∃ i σ' H',Inv X pins σ' H' s7/\tn i s7.heap/\(∀ b∈fp,H' b=none)/\W i m σ' H':=fun {σ7 H7 s7} I7 n7=>by
   obtain ⟨m',hm,w7⟩:=n7
   refine ⟨m',hm,i + 1,σ7,H7,I7.unpinned,T.keep _ _ _ st5 fun b hb o e=>(I7.pin (b,o) (List.mem_append_right _ (List.mem_append_right _ (qaH hb e)))).1,fun b hb=>?_,w7⟩
   obtain ⟨o,e,d⟩:=T.obj _ _ st5 b hb
   exact (I7.pin (b,o) (List.mem_append_right _ (List.mem_append_right _ (qaH hb e)))).2.1
  refine wpAny_bind (wpAny_mono (ht _ s6 σ6 H6 _ I6 q6) (fun ok s7 h7=>?_) fun _ _ x=>(hxe _ _ x).elim)
  obtain ⟨H7,I7,q7⟩:=h7
  cases ok with
  | false =>
   rw [if_neg Bool.false_ne_true] at q7
   exact wpAny_pure ⟨rfl,again I7 q7⟩
  | true =>
   rw [if_pos rfl] at q7
   refine wpAny_bind (wpAny_mono (hb _ s7 σ6 H7 _ I7 q7) (fun y s8 h8=>?_) fun _ _ x=>(hxe _ _ x).elim)
   obtain ⟨σ8,H8,I8,w8⟩:=h8
   exact wpAny_pure ⟨rfl,again I8 w8⟩
def qkG (σ0:St->St)(wi:TI)(g:TG)(tc:TT)(tk tv:TE):TE:=fun σ H Q=>wi σ H fun J H1=>∀ p,H1 p=none->qfW J g tc (qkF p tk tv) (σ0 σ) (upd H1 p (.dK [])) fun _ H'=>Q (.ref p) H'
theorem Inv.freeze {X:Cx}{pins:List (Addr × Obj)}{σ:St}{H:Hp}{s:Shared}{d:Addr}{kvs:List (Key × V)}(I:Inv X pins σ H s)(h:H d=some (.dK kvs)):∃ o,s.heap.get? d=some o/\Inv X pins σ (upd H d (.frz o (.dK kvs))) s:=by
 have ok:=I.hok d _ h
 obtain ⟨z,hd,vs,rel,dd⟩:=id ok
 obtain ⟨o,es,ep,ho,rest⟩:=id dd
 refine ⟨o,ho,?_⟩
 exact qb3 (t':=s.toks) I (by rw [h]; exact True.intro) ⟨rfl,fun _ _=>rfl⟩ ⟨o,ho⟩ ⟨ho,z,hd,vs,rel,dd⟩
def Iti (d:Addr)(o:Obj):It :=
 ⟨fun i H=>∃ kvs kv,H d=some (.frz o (.dK kvs))/\kvs[i]?=some kv,
  fun i H v H'=>∃ p kv,v = .ref p/\H p=none/\H'=upd H p (.tup [kV kv.1,kv.2])/\∀ kvs,H d=some (.frz o (.dK kvs))->kvs[i]?=some kv,
  fun i H=>∃ kvs,H d=some (.frz o (.dK kvs))/\kvs.length≤i⟩
theorem qgT {P:Program}{w:World}{K:PySem.W.Frag}{elts:List Expr}{c:Nat}{pos:Pos}{it d:Addr}{o:Obj}{es:Array DictEntry}{ep n:Nat}(hid:it≠d)(hod:o.data = .dict es ep)(hn:es.size=n)
  (hself:∀ (A:Around) (s:Shared) (Q:Value->Shared->Prop) (E:Value->Shared->Prop) (i:Nat) (ok ov:Value),IsItemIter s.heap it d i n ep ok ov->Q (.ref it) s->wpAny (model P w) A (pyIter (.ref it)) Q E s) :
  Turn P w K (.Tuple elts c pos) (Iti d o) [it] it (fun i h=>∃ ok ov,IsItemIter h it d i n ep ok ov) where
 mem:=by simp
 obj:=fun i h st x hx=>by
  obtain ⟨ok,ov,he⟩:=st
  rw [List.mem_singleton.mp hx]
  exact ⟨_,he,fun _ q=>by cases q⟩
 keep:=fun i h h' st k=>by
  obtain ⟨ok,ov,he⟩:=st
  exact ⟨ok,ov,k it (by simp) _ he⟩
 item:=by
  intro X hP hw hK hc i pins s σ H E I hf st hg
  subst hP hw hK
  obtain ⟨kvs,kv,hH,hx⟩:=hg
  obtain ⟨ho,z,hd,vs,rel,o',es',ep',ho',hx1,hd',hk,hpr,hnd⟩:=I.hok d _ hH
  rw [ho] at ho'
  cases ho'
  rw [hod] at hd'
  cases hd'
  obtain ⟨ok,ov,he⟩:=st
  have hl:vs.length=n:=by rw [<- hn]; have:=hpr.length; simp at this; omega
  obtain ⟨q,hq,hqk,hqv⟩:∃ q,vs[i]?=some q/\kv.1=q.1/\RelV kv.2 q.2:=by
   obtain ⟨q,h1,h2,h3⟩:=My.Paired.at' rel hx
   exact ⟨q,h1,h2,h3⟩
  have hm:s.heap.DictAt (qap X.prog X.w) d vs ep:=⟨o,es,ho,hx1,hod,hk,hpr,hnd⟩
  subst hl
  refine wpAny_pyNext_items_item (knd:=qap X.prog X.w) he hm (k:=q.1) (v:=q.2) hq fun key h' hkey eo hT hsz kp=>⟨_,rfl,?_⟩
  refine wpAny_letOwnedTupleGo_items (s:={ s with heap:=h' }) eo fun h'' c1 sb=>?_
  have hnw:H s.heap.objs.size=none:=I.hok.fresh (Nat.le_refl _)
  have lt:s.heap.objs.size≠it:=Nat.ne_of_gt (Heap.lt_size he)
  have T1:h''.get? s.heap.objs.size=some { cls := .type "tuple",data := .seq #[key,q.2] }:=(sb.2 _ lt).trans hT
  have rk:RelV (kV kv.1) key:=by
   rw [hqk]
   rcases qaC (show qeU q.1 key=true from hkey) with ⟨i,t,e1,e2⟩ | ⟨x,t,e1,e2⟩
   ·rw [e1,e2]; exact ⟨t,rfl⟩
   ·rw [e1,e2]; exact ⟨t,rfl⟩
  refine ⟨.ref s.heap.objs.size,upd H s.heap.objs.size (.tup [kV kv.1,kv.2]),I.turnedNew (t':=s.toks) hf (fun b u hb e=>?_) (Nat.le_refl _) ⟨by show 2≤_; decide,[key,q.2],.cons rk (.cons hqv .nil),_,T1,rfl,_,rfl,rfl⟩,rfl,⟨_,kv,rfl,hnw,rfl,fun kvs' h'=>?_⟩,⟨_,_,c1⟩,fun b hb=>?_⟩
  ·have hb':b≠it:=by simpa using hb
   exact (sb.2 _ hb').trans (kp b u hb' e)
  ·rw [hH] at h'; cases h'; exact hx
  ·rw [List.mem_singleton.mp hb,uE (Ne.symm lt)]
   exact (hf it (by simp)).1
 done:=by
  intro X hP hw hK hc i pins s σ H E I hf st hg
  subst hP hw hK
  obtain ⟨kvs,hH,hx⟩:=hg
  obtain ⟨ho,z,hd,vs,rel,o',es',ep',ho',hx1,hd',hk,hpr,hnd⟩:=I.hok d _ hH
  rw [ho] at ho'
  cases ho'
  rw [hod] at hd'
  cases hd'
  obtain ⟨ok,ov,he⟩:=st
  have hl:vs.length=n:=by rw [<- hn]; have:=hpr.length; simp at this; omega
  have hl2:kvs.length=vs.length:=Paired.length rel
  have hm:s.heap.DictAt (qap X.prog X.w) d vs ep:=⟨o,es,ho,hx1,hod,hk,hpr,hnd⟩
  subst hl
  exact wpAny_pyNext_items_end (knd:=qap X.prog X.w) (I.ok.hd hc) he hm (List.getElem?_eq_none_iff.mpr (by omega)) fun h' eb=>⟨rfl,I.turnedL (t':=s.toks) hf fun c o hc' q=>eb c o (by simpa using hc') q⟩
 self:=fun A i s Q E st h=>by
  obtain ⟨ok,ov,he⟩:=st
  exact hself A s Q E i ok ov he h
theorem qbl:entryFor table "dict_itemiterator.__iter__" = some Builtin.«dict_keyiterator.__iter__» :=
 entryFor_alias (id' := "dict_keyiterator.__iter__") (by kernel_rfl) rfl (by decide +kernel) (by kernel_rfl)
theorem qdb {P:Program}{w:World}{A:Around}{E:Value->Shared->Prop}{s:Shared}{it d:Addr}{i n ep:Nat}{ok ov:Value}{Q:Value->Shared->Prop}(he:IsItemIter s.heap it d i n ep ok ov)(h:Q (.ref it) s):wpAny (model P w) A (pyIter (.ref it)) Q E s:=by
 have hT:s.TypeIs (.ref it) "dict_itemiterator" := ⟨_,he,rfl⟩
 refine wpAny_pyIter_slot hT F.slot_dict_itemiterator_iter (wpAny_call_entry F.slot_dict_itemiterator_iter hT qbl ?_ (F.args_dict_itemiterator_iter_1 _))
 show wpAny _ _ (ret (.ref it)) _ _ s
 exact wpAny_pure ⟨_,rfl, "dict_itemiterator",_,hT,F.slot_dict_itemiterator_next.lookup,h⟩
def qk1 (to:TE):TI:=fun σ H R=>to σ H fun x H1=>∃ d kvs,x = .ref d/\((H1 d=some (.dK kvs)/\∀ o,R (Iti d o) (upd H1 d (.frz o (.dK kvs))))\/∃ o,H1 d=some (.frz o (.dK kvs))/\R (Iti d o) H1)
theorem qjL {X:Cx}{elts:List Expr}{c:Nat}{tpos apos cpos:Pos}{o:Expr}{to:TE}(ho:PE X o to)
  (hbase:attributeBase o "items" X.env (eval o X.env)=eval o X.env:=by rfl) (hline:(apos.endLine == cpos.line)=true:=by rfl):PI X (.Tuple elts c tpos) (.Call (.Attribute o "items" apos) [] [] cpos) (qk1 to):=by
 intro pins s σ H R I h
 refine wpAny_Call_method0_late hbase hline (thn (ho pins s σ H _ I h) fun v s1 ⟨x,H1,I1,r1,d,kvs,ex,q1⟩=>?_)
 subst ex
 cases r1
 have fz:∃ (H2:Hp) (ob:Obj),Inv X pins σ H2 s1/\H2 d=some (.frz ob (.dK kvs))/\R (Iti d ob) H2:=by
  rcases q1 with ⟨e,q⟩ | ⟨ob,e,q⟩
  ·obtain ⟨ob,_,I2⟩:=I1.freeze e
   exact ⟨_,ob,I2,uS,q ob⟩
  ·exact ⟨H1,ob,I1,e,q⟩
 obtain ⟨H2,ob,I2,e2,q⟩:=fz
 obtain ⟨hob,z,hds,vs,rel,ob',es,ep,hob',hx,hdat,hk,hpr,hnd⟩:=I2.hok d _ e2
 rw [hob] at hob'
 cases hob'
 have dd:s1.heap.DictOf (qap X.prog X.w) d vs:=⟨ob,es,ep,hob,hx,hdat,hk,hpr,hnd⟩
 refine ⟨"dict", "dict.items",F.plainAttrs_dict,F.slot_dict_items,F.type_dict_items,dd.typeIs,dd.mapOf.noDict,Calls.callWith_builtin rfl (PySem.evalArgs_none ?_)⟩
 refine call_meetsIn F.slot_dict_items dd.typeIs F.entry_dict_items (F.args_dict_items_1 _) (meets_dict_items (qap X.prog X.w) d hds) ⟨⟨vs,dd⟩,?_⟩
 have I3:Inv X pins σ H2 { s1 with heap:=s1.heap.push { cls := .type "dict_items",data := .fields #[.ref d] } }:=I2.kept (t':=s1.toks) fun b u e=>Heap.get?_push_of_some _ e
 generalize hs2:({ s1 with heap:=s1.heap.push { cls := .type "dict_items",data := .fields #[.ref d] } }:Shared)=s2 at *
 have hview:s2.heap.IsItemsView s1.heap.objs.size d:=by rw [<- hs2]; exact ⟨_,Heap.get?_push_size _ rfl,rfl,rfl⟩
 have hm:s2.heap.DictAt (qap X.prog X.w) d vs ep:=by rw [<- hs2]; exact ⟨ob,es,Heap.get?_push_of_some _ hob,hx,hdat,hk,hpr,hnd⟩
 show wpAny _ _ (pyIter (.ref s1.heap.objs.size)) _ _ s2
 refine wpAny_pyIter_items (knd:=qap X.prog X.w) hview hm ?_
 have hl:es.size=vs.length:=by have:=hpr.length; simpa using this
 have hd2:d < s2.heap.objs.size:=by obtain ⟨u,_,hu,_⟩:=hm; exact Heap.lt_size hu
 refine ⟨s2.heap.objs.size,[s2.heap.objs.size],_,_,H2,rfl,I3.kept (t':=s2.toks) fun b u e=>Heap.get?_push_of_some _ e,qgT (o:=ob) (es:=es) (ep:=ep) (n:=vs.length) (Nat.ne_of_gt hd2) hdat hl (fun A s Q E i ok ov he hq=>qdb he hq),⟨.none,.none,Heap.get?_push_size _ rfl⟩,fun b hb=>?_,q⟩
 rw [List.mem_singleton.mp hb]
 exact I3.fpOk (Nat.le_refl _) (I3.hok.fresh (Nat.le_refl _))
end L2
namespace L2
open PySem PySem.Builtin PySem.Builtin.ObjectAttr PySem.Spec PyProof.Rows
end L2
namespace L2
open PySem PySem.Spec PyProof.Rows
end L2
namespace L2
end L2
namespace My
open PySem L2 MA
end My
namespace L2
end L2
namespace My
open PySem L2 MA
end My
namespace L2
open PySem PySem.Spec PyProof.Rows
end L2
namespace My
open PySem L2 MA
theorem qao {H H':Hp}{l:Addr}(hl:H l=none)(s:Same H H')(o:HO):Same H (upd H' l o):=fun b u q=>by rw [uE (qae q hl)]; exact s _ _ q
theorem qlW {n j:Nat}(h:j < n):ixN n ((j:Nat):Int)=some j:=by
 unfold ixN
 rw [if_pos (by omega),if_pos (by omega)]
 simp
theorem qnb {ns:List Int}{j:Nat}{x:Int}(h:ns[j]?=some x):atI (iv ns) ((j:Nat):Int)=some (.int x):=qdq (by rw [List.getElem?_map,h]; rfl)
theorem qkX (ns:List Int)(j:Nat)(y:Int):(iv ns).set j (.int y)=iv (ns.set j y):=by show (ns.map V.int).set j (.int y)=(ns.set j y).map V.int; rw [List.map_set]
end My
namespace L2
open PySem PySem.Spec PyProof.Rows
end L2
namespace My
open PySem L2 MA
end My
namespace L2
open PySem PySem.Spec PyProof.Rows
end L2
namespace L2
open PySem PySem.Spec PyProof.Rows MA
end L2
namespace My
open PySem L2 MA
end My
namespace L2
open PySem PySem.Spec PyProof.Rows MA SeqAt
end L2
namespace My
open PySem L2 MA
end My
namespace L2
open PySem PySem.Spec PyProof.Rows
end L2
namespace L2
open PySem PySem.Spec PyProof.Rows MA SeqAt
end L2
namespace PySem.SeqAt
open AutoSeq1 (wpAny_loadPart')
open MeetsSeq MeetsSeq2 MeetsSeq3 SeqRoads2
end PySem.SeqAt
namespace L2
open PySem PySem.Spec PyProof.Rows MA
end L2
namespace L2
open PySem PySem.Spec PyProof.Rows
end L2
namespace PyProof.Rows
open PySem
end PyProof.Rows
namespace L2
open PySem PySem.Spec PyProof.Rows MA
end L2
namespace L2
open PySem PySem.Spec PyProof.Rows
theorem qet:∀ (names:List (Str × NameKind)) (n:Nat) (a acc:List (Str × Addr)),cellsFrom n names (a ++ acc)=cellsFrom n names a ++ acc
 | [],_,_,_=>rfl
 | (x,k) :: r,n,a,acc=>by
  unfold cellsFrom
  split
  ·exact qet r (n + 1) ((x,n) :: a) acc
  ·exact qet r n a acc
theorem qi7 {names:List (Str × NameKind)}{n:Nat}{acc:List (Str × Addr)}:cellsFrom n names acc=cellsFrom n names [] ++ acc:=qet names n [] acc
theorem qeh:∀ {names:List (Str × NameKind)} {n:Nat} {a:List (Str × Addr)} {x:Str} {c:Addr},(x,c)∈cellsFrom n names a->(x,c)∈a\/(x,NameKind.cell)∈names
 | [],_,_,_,_,h => .inl h
 | (y,k) :: r,n,a,x,c,h=>by
  unfold cellsFrom at h
  split at h
  ·rename_i hk
   rcases qeh h with q | q
   ·rcases List.mem_cons.mp q with z | z
    ·cases z
     rw [eq_of_beq hk]
     exact .inr (by simp)
    ·exact .inl z
   ·exact .inr (List.mem_cons_of_mem _ q)
  ·rcases qeh h with q | q
   ·exact .inl q
   ·exact .inr (List.mem_cons_of_mem _ q)
theorem qlB {names:List (Str × NameKind)}{n:Nat}{x:Str}{c:Addr}(h:(x,c)∈cellsFrom n names []):(x,NameKind.cell)∈names:=(qeh h).elim (fun z=>nomatch z) id
theorem has_lookup {x:Str}:∀ {l:List (Str × Addr)},(∃ c,(x,c)∈l)->∃ c,l.lookup x=some c
 | [],⟨_,h⟩=>nomatch h
 | (y,d) :: r,⟨c,h⟩=>by
  rw [List.lookup_cons]
  cases e:x == y with
  | true=>exact ⟨d,rfl⟩
  | false =>
   rcases List.mem_cons.mp h with z | z
   ·cases z; simp at e
   ·exact has_lookup ⟨c,z⟩
theorem qei:∀ {names:List (Str × NameKind)} {n:Nat} {a:List (Str × Addr)} {x:Str} {c:Addr},(x,c)∈a->(x,c)∈cellsFrom n names a
 | [],_,_,_,_,h=>h
 | (y,k) :: r,n,a,x,c,h=>by
  unfold cellsFrom
  split
  ·exact qei (List.mem_cons_of_mem _ h)
  ·exact qei h
theorem qej:∀ {names:List (Str × NameKind)} {n:Nat} {a:List (Str × Addr)} {x:Str},(x,NameKind.cell)∈names->∃ c,(x,c)∈cellsFrom n names a
 | [],_,_,_,h=>nomatch h
 | (y,k) :: r,n,a,x,h=>by
  unfold cellsFrom
  rcases List.mem_cons.mp h with z | z
  ·cases z
   rw [if_pos (show (NameKind.cell == NameKind.cell)=true from rfl)]
   exact ⟨n,qei (by simp)⟩
  ·split
   ·exact qej z
   ·exact qej z
theorem qlC {names:List (Str × NameKind)}{n:Nat}{x:Str}(h:(x,NameKind.cell)∈names):∃ c,(cellsFrom n names []).lookup x=some c:=has_lookup (qej h)
theorem qip {M:Model}{A:Around}{E:Value->Shared->Prop}{s:Shared}{scope:Scope}{globals:Addr}{cl:List (Str × Addr)}{qual:Str}{env:Env}{Q:Env->Shared->Prop}
  (h:Q { scope,locals:=s.heap.objs.size,globals,cells:=cellsFrom (s.heap.objs.size + 1) scope.names cl,qual,func:=none,code:=env.code,frame:=env.frame,builtins:=env.builtins } { s with heap:=pushCells (s.heap.push { cls := .type "dict",data := .dict #[] }) scope.names }) :
  wpAny M A (newFunctionEnv scope globals cl [] qual none .none (some env)) Q E s:=by
 simp only [newFunctionEnv,Option.isSome_some,if_true]
 refine wpAny_bind (wpAny_alloc ?_)
 refine wpAny_bind (wpAny_layCells _ (fun name kind cells=>by cases hkc:kind == NameKind.cell <;> simp [hkc]) _ _ _ _ ?_)
 rw [show ({ s with heap:=s.heap.push { cls := .type "dict",data := .dict #[] } }:Shared).heap.objs.size=s.heap.objs.size + 1 from Heap.size_push ..]
 exact wpAny_bind (wpAny_pure (wpAny_pure h))
def qa3 (X:Cx)(scope:Scope)(N:List Str)(cl:List (Str × Addr))(C:Addr)(s:Shared)(H:Hp)(ex:List Addr):Cx :=
 { X with N:=N,s₀:=s,H₀:=H,env:=compEnvC scope cl C X.env,outer:=X.stack,stack:=X.stack,ex:=ex,fn:=fun x=>scope.names.lookup x == some .cell,pn:=[] }
end L2
namespace My
open PySem L2 MA
end My
namespace PySem.SeqAt
open AutoSeq1 (wpAny_loadPart')
open MeetsSeq MeetsSeq2 MeetsSeq3
def RcLtAt (A:Around)(s:Shared)(y x:Value)(b:Bool):Prop :=
 ∀ (prog:Program) (w:World) (E:Value->Shared->Prop) (Q:Value->Shared->Prop),Q (.bool b) s->wpAny (model prog w) A (richCompare .Lt y x) Q E s
theorem qgX (l b:Addr)(items items2:Array Value)(n n2:Nat)(dd dd2:Option Addr)(sl sl2:Array (Option Value))(e f res:Nat->Bool)
  (r1:∀ i,i < min items.size items2.size->e i=true->res i=res (i + 1)) (r2:∀ i,i < min items.size items2.size->e i=false->res i=f i) (r3:∀ i,min items.size items2.size≤i->res i=decide (items.size < items2.size)) :
  Meets (Builtin.«tuple.__lt__» ⟨[.ref l,.ref b],[]⟩)
   (fun A R s=>s.heap.get? l=some { cls := .type "tuple",dict:=dd,data := .seq items n,slots:=sl }/\s.heap.get? b=some { cls := .type "tuple",dict:=dd2,data := .seq items2 n2,slots:=sl2 } /\
     (∀ j (h1:j < items.size) (h2:j < items2.size),EqAt A.in1 s items[j] items2[j] (e j))/\(∀ j (h1:j < items.size) (h2:j < items2.size),e j=false->RcLtAt A.in1 s items[j] items2[j] (f j)) /\
     R (.ok (.ret (.bool (res 0)))) s) :=
 .of_wp fun prog w A R s h=>by
  obtain ⟨hp,g,d,tk,os⟩:=s; obtain ⟨hl,hb,he,hlt',h⟩:=h
  have f2:=AutoSeq1.sub_tuple_tuple
  have hZ:(items.toList.zip items2.toList).length=min items.size items2.size:=by simp
  wp_walk using wpAny_loadPart' hl,wpAny_loadPart' hb,wpAny_forIn_list _ (fun rest b s'=>b.1=none/\s'=⟨hp,g,d,tk,os⟩/\∃ i,rest=(items.toList.zip items2.toList).drop i /\
   R (.ok (.ret (.bool (res i)))) ⟨hp,g,d,tk,os⟩) _
  case turn =>
   rintro ⟨y,x⟩ rest b s' ⟨hb',rfl,i,hz,hR⟩
   have hlt:i < (items.toList.zip items2.toList).length:=by
    rcases Nat.lt_or_ge i (items.toList.zip items2.toList).length with h' | h'
    ·exact h'
    ·rw [List.drop_of_length_le h'] at hz; cases hz
   have hm:i < min items.size items2.size:=hZ ▸ hlt
   have h1:i < items.size:=Nat.lt_of_lt_of_le hm (Nat.min_le_left _ _)
   have h2:i < items2.size:=Nat.lt_of_lt_of_le hm (Nat.min_le_right _ _)
   rw [List.drop_eq_getElem_cons hlt] at hz
   injection hz with hyx hrest
   have hy:y=items[i]:=by have:=congrArg Prod.fst hyx; simpa using this
   have hx:x=items2[i]:=by have:=congrArg Prod.snd hyx; simpa using this
   subst hy hx
   refine wpAny_bind (he i h1 h2 prog w _ _ ?_)
   cases hy:e i with
   | true =>
    rw [r1 i hm hy] at hR
    wp_walk
    exact ⟨rfl,rfl,i + 1,hrest,hR⟩
   | false =>
    rw [r2 i hm hy] at hR
    have hc:=hlt' i h1 h2 hy
    simp only [Bool.not_false,if_true]
    refine wpAny_bind (wpAny_rule (wpAny_bind (hc prog w _ _ (wpAny_bind (wpAny_pure (wpAny_pure ?_))))))
    exact wpAny_pure ⟨_,rfl,hR⟩
  case fin =>
   rintro ⟨b1,b2⟩ s' ⟨hb',rfl,i,hz,hR⟩
   simp only at hb'
   subst hb'
   have hge:min items.size items2.size≤i:=by
    rcases Nat.lt_or_ge i (items.toList.zip items2.toList).length with h' | h'
    ·rw [List.drop_eq_getElem_cons h'] at hz; cases hz
    ·exact hZ ▸ h'
   rw [r3 i hge] at hR
   wp_walk
   exact ⟨_,rfl,by simpa [Builtin.Tuple.tupleCompareSizes] using hR⟩
  case h =>
   exact ⟨rfl,rfl,0,rfl,h⟩
section
variable {A:Around}{s:Shared}
theorem RcLtAt.tuples {l b:Addr}{items items2:Array Value}{e f res:Nat->Bool}(hl:s.heap.IsTuple l items)(hb:s.heap.IsTuple b items2)(hu:A.units < cLine)
  (r1:∀ i,i < min items.size items2.size->e i=true->res i=res (i + 1)) (r2:∀ i,i < min items.size items2.size->e i=false->res i=f i) (r3:∀ i,min items.size items2.size≤i->res i=decide (items.size < items2.size))
  (he:∀ j (h1:j < items.size) (h2:j < items2.size),EqAt A.in1 s items[j] items2[j] (e j)) (hf:∀ j (h1:j < items.size) (h2:j < items2.size),e j=false->RcLtAt A.in1 s items[j] items2[j] (f j)):RcLtAt A s (.ref l) (.ref b) (res 0):=fun prog w E Q h=>by
 obtain ⟨⟨cls,dd,data,sl⟩,ho,hc,n,hd⟩:=id hl
 obtain ⟨⟨cls2,dd2,data2,sl2⟩,ho2,hc2,n2,hd2⟩:=id hb
 simp only at hc hd hc2 hd2
 subst hc hd hc2 hd2
 exact richCompare_meets_room (op := .Lt) ⟨_,ho,rfl⟩ ⟨_,ho2,rfl⟩ F.slot_tuple_lt F.entry_tuple_lt (F.args_tuple_lt_2 _ _) (qgX l b items items2 n n2 dd dd2 sl sl2 e f res r1 r2 r3)
  ⟨ho,ho2,he,hf,show Value.bool (res 0)≠Value.notImplemented/\Q (.bool (res 0)) s from ⟨(fun x=>nomatch x),h⟩⟩ hu
end
end PySem.SeqAt
namespace Srt
open PySem PySem.W PyProof.Rows
structure Ord (c:Nat->Nat->Bool):Prop where
 asym:∀ i j,c i j=true->c j i=false
 tr:∀ i j k,c j i=false->c k j=false->c k i=false
abbrev at' (p:Array Nat)(i:Nat):Nat:=p.getD i 0
def Up (c:Nat->Nat->Bool)(p:Array Nat)(m:Nat):Prop:=∀ i j,i≤j->j < m->c (at' p j) (at' p i)=false
theorem at_of {p q:Array Nat}{i j:Nat}(h:p[i]?=q[j]?):at' p i=at' q j:=by
 unfold at'
 rw [Array.getD_eq_getD_getElem?,Array.getD_eq_getD_getElem?,h]
theorem qa5 {p:Array Nat}{i j:Nat}(hj:j≤p.size)(k:Nat):at' (kas_rev p i j) k=if i≤k/\k < j then at' p (i + j - 1 - k) else at' p k:=by
 have h:=getElem?_mirror_all (i:=i) hj k
 split at h
 ·rename_i q; rw [if_pos q]; exact at_of h
 ·rename_i q; rw [if_neg q]; exact at_of h
theorem qjl {p:Array Nat}{k l:Nat}(hk:k < p.size)(hl:l≤k)(i:Nat):at' (bubble p k (k - l)) i=if i=l then at' p k else if l < i/\i≤k then at' p (i - 1) else at' p i:=by
 have h:=getElem?_bubble hk (k - l) (by omega) i
 rw [show k - (k - l)=l by omega] at h
 split at h
 ·rename_i q; rw [if_pos q]; exact at_of h
 ·rename_i q; rw [if_neg q]
  split at h
  ·rename_i q; rw [if_pos q]; exact at_of h
  ·rename_i q; rw [if_neg q]; exact at_of h
def Of (n:Nat)(p:Array Nat):Prop:=p.Perm (List.toArray (List.range n))
theorem Of.size {n:Nat}{p:Array Nat}(h:Of n p):p.size=n:=by have:=h.size_eq; simpa using this
theorem Of.lt {n:Nat}{p:Array Nat}(h:Of n p){i:Nat}(hi:i < n):at' p i < n:=by
 have hs:=h.size
 have e:at' p i=p[i]'(by omega):=by unfold at'; simp [hs,hi]
 have hm:p[i]'(by omega)∈(List.range n):=by
  have:=(Array.perm_iff_toList_perm.mp h).mem_iff (a:=p[i]'(by omega))
  exact this.mp (by simp)
 rw [e]; exact List.mem_range.mp hm
theorem Of.rev {n:Nat}{p:Array Nat}(h:Of n p)(i j:Nat):Of n (kas_rev p i j):=(mirror_perm p i j _).trans h
theorem Of.bub {n:Nat}{p:Array Nat}(h:Of n p)(i j:Nat):Of n (bubble p i j):=(bubble_perm p i j).trans h
abbrev In (n:Nat)(i j:Nat):Prop:=i < n/\j < n/\i≠j
theorem Of.inn {n:Nat}{p:Array Nat}(h:Of n p){i j:Nat}(hi:i < n)(hj:j < n)(hne:i≠j):In n (at' p i) (at' p j):=by
 refine ⟨h.lt hi,h.lt hj,fun e=>hne ?_⟩
 have hs:=h.size
 have nd:p.toList.Nodup:=(Array.perm_iff_toList_perm.mp h).nodup_iff.mpr (by simpa using List.nodup_range)
 have e1:at' p i=p.toList[i]'(by simp; omega):=by unfold at'; simp [hs,hi]
 have e2:at' p j=p.toList[j]'(by simp; omega):=by unfold at'; simp [hs,hj]
 rw [e1,e2] at e
 have pw:=List.pairwise_iff_getElem.mp nd
 rcases Nat.lt_trichotomy i j with x | x | x
 ·exact absurd e (pw i j (by simp; omega) (by simp; omega) x)
 ·exact x
 ·exact absurd e.symm (pw j i (by simp; omega) (by simp; omega) x)
section
variable {c:Nat->Nat->Bool}(O:Ord c){n:Nat}
include O
theorem Ord.irr (i:Nat):c i i=false:=by
 cases h:c i i with
 | false=>rfl
 | true=>exact (O.asym i i h).symm.trans h ▸ rfl
end
def ql3:Bool->Keyed->Array Keyed->Nat->Nat->Nat->StateT SortSt Sem (Option Nat):=sortPriv% PySem.Builtin.gallop
section
variable {prog:Program}{w:World}{A:Around}{E:Value->Shared->Prop}{s:Shared}
theorem qac {arr:Array Keyed}{i:Nat}{x:Keyed}{st:SortSt}{Q:Keyed->SortSt->Prop}(h:arr[i]?=some x)(k:Q x st):wpS (model prog w) A E s (elem' arr i) Q st:=by
 rw [elem'_eq,h]
 exact wpS_pure k
theorem qav {left:Bool}{key:Keyed}{arr:Array Keyed}{base n hint:Nat}{st:SortSt}{Q:Option Nat->SortSt->Prop}(B:Nat->Bool)(mono:∀ i j,i≤j->j < n->B j=true->B i=true)(hh:hint < n)
  (hb:∀ i,i < n->∃ x,arr[base + i]?=some x/\(∀ Q:Option Bool->SortSt->Prop,left=true->Q (some (B i)) st->wpS (model prog w) A E s (lt' x key) Q st)/\(∀ Q:Option Bool->SortSt->Prop,left=false->Q (some (!B i)) st->wpS (model prog w) A E s (lt' key x) Q st))
  (h:∀ k,k≤n->(∀ i,i < k->B i=true)->(∀ i,k≤i->i < n->B i=false)->Q (some k) st):wpS (model prog w) A E s (ql3 left key arr base n hint) Q st:=by
 have byd:∀ i,i < n->∀ Q:Option Bool->SortSt->Prop,Q (some (B i)) st->wpS (model prog w) A E s (elem' arr (base + i) >>= fun x=>if left=true then lt' x key else lt' key x >>= fun r=>pure (r.map fun b=>!b)) Q st:=by
  intro i hi Q hQ
  obtain ⟨x,hx,h1,h2⟩:=hb i hi
  refine wpS_bind (qac hx ?_)
  cases left with
  | true=>rw [if_pos rfl]; exact h1 _ rfl hQ
  | false=>rw [if_neg (by decide)]; exact wpS_bind (h2 _ rfl (wpS_pure (by simpa using hQ)))
 have neg:∀ i j,i≤j->j < n->B i=false->B j=false:=fun i j hij hj hi=>by
  cases hB:B j with
  | false=>rfl
  | true=>rw [mono i j hij hj hB] at hi; exact hi
 refine wpS_bind (byd hint hh _ ?_)
 dsimp only
 cases hB:B hint with
 | true =>
  simp only [if_true]
  refine wpS_bind (wpS_mono (wpS_forRange (I:=fun x c st'=>st'=st/\∃ l o,c=(none,l,o)/\l < o/\x + 1≤o/\hint + l < n/\B (hint + l)=true)
   (Q:=fun c st'=>st'=st/\∃ l o,c=(none,l,o)/\l < o/\hint + l < n/\B (hint + l)=true/\(n - hint≤o\/(hint + o < n/\B (hint + o)=false))) ?_ ?_ ⟨rfl,0,1,rfl,by omega,by omega,by omega,hB⟩) ?_)
  ·rintro x c st' _ hx ⟨rfl,l,o,rfl,hlo,hxo,hl,hBl⟩
   dsimp only
   by_cases c:o ≥ n - hint
   ·rw [if_pos c]
    exact wpS_pure ⟨rfl,l,o,rfl,hlo,hl,hBl,.inl c⟩
   ·rw [if_neg c]
    refine wpS_bind (byd (hint + o) (by omega) _ ?_)
    dsimp only
    cases hBo:B (hint + o) with
    | true =>
     simp only [Bool.not_true,Bool.false_eq_true,if_false]
     exact wpS_pure ⟨rfl,o,_,rfl,by omega,by omega,by omega,hBo⟩
    | false =>
     simp only [Bool.not_false,if_true]
     exact wpS_pure ⟨rfl,l,o,rfl,hlo,hl,hBl,.inr ⟨by omega,hBo⟩⟩
  ·rintro c st' ⟨rfl,l,o,rfl,hlo,hxo,hl,hBl⟩
   exact ⟨rfl,l,o,rfl,hlo,hl,hBl,.inl (by omega)⟩
  ·rintro c st' ⟨rfl,l,o,rfl,hlo,hl,hBl,hor⟩
   have lo1:∀ i,i < hint + l + 1->B i=true:=fun i hi=>mono i (hint + l) (by omega) hl hBl
   have hi1:∀ i,hint + min o (n - hint)≤i->i < n->B i=false:=fun i h1 h2=>by
    rcases hor with z | ⟨z1,z2⟩
    ·omega
    ·exact neg (hint + o) i (by omega) h2 z2
   dsimp only
   refine wpS_bind (wpS_mono (wpS_forRange (I:=fun x c st''=>st''=st'/\∃ a b,c=(none,a,b)/\a≤b/\b≤n/\b - a≤n - x/\(∀ i,i < a->B i=true)/\∀ i,b≤i->i < n->B i=false)
    (Q:=fun c st''=>st''=st'/\∃ a,c=(none,a,a)/\a≤n/\(∀ i,i < a->B i=true)/\∀ i,a≤i->i < n->B i=false) ?_ ?_ ⟨rfl,_,_,rfl,by omega,by omega,by omega,lo1,hi1⟩) ?_)
   ·rintro x c st'' _ hx ⟨rfl,a,b,rfl,hab,hbn,hm,ha,hb'⟩
    dsimp only
    by_cases c:a ≥ b
    ·rw [if_pos c]
     have:a=b:=by omega
     subst this
     exact wpS_pure ⟨rfl,a,rfl,hbn,ha,hb'⟩
    ·rw [if_neg c]
     refine wpS_bind (byd (a + (b - a) / 2) (by omega) _ ?_)
     dsimp only
     cases hm':B (a + (b - a) / 2) with
     | true =>
      simp only [if_true]
      exact wpS_pure ⟨rfl,_,_,rfl,by omega,by omega,by omega,fun i hi=>mono i _ (by omega) (by omega) hm',hb'⟩
     | false =>
      simp only [Bool.false_eq_true,if_false]
      exact wpS_pure ⟨rfl,_,_,rfl,by omega,by omega,by omega,ha,fun i h1 h2=>neg _ i h1 h2 hm'⟩
   ·rintro c st'' ⟨rfl,a,b,rfl,hab,hbn,hm,ha,hb'⟩
    have:a=b:=by omega
    subst this
    exact ⟨rfl,a,rfl,hbn,ha,hb'⟩
   ·rintro c st'' ⟨rfl,a,rfl,han,ha,hb'⟩
    exact wpS_pure (h a han ha hb')
 | false =>
  simp only [Bool.false_eq_true,if_false]
  refine wpS_bind (wpS_mono (wpS_forRange (I:=fun x c st'=>st'=st/\∃ l o,c=(none,l,o)/\l < o/\x + 1≤o/\l≤hint/\B (hint - l)=false)
   (Q:=fun c st'=>st'=st/\∃ l o,c=(none,l,o)/\l < o/\l≤hint/\B (hint - l)=false/\(hint + 1≤o\/(o≤hint/\B (hint - o)=true))) ?_ ?_ ⟨rfl,0,1,rfl,by omega,by omega,by omega,hB⟩) ?_)
  ·rintro x c st' _ hx ⟨rfl,l,o,rfl,hlo,hxo,hl,hBl⟩
   dsimp only
   by_cases c:o ≥ hint + 1
   ·rw [if_pos c]
    exact wpS_pure ⟨rfl,l,o,rfl,hlo,hl,hBl,.inl c⟩
   ·rw [if_neg c]
    refine wpS_bind (byd (hint - o) (by omega) _ ?_)
    dsimp only
    cases hBo:B (hint - o) with
    | true =>
     simp only [if_true]
     exact wpS_pure ⟨rfl,l,o,rfl,hlo,hl,hBl,.inr ⟨by omega,hBo⟩⟩
    | false =>
     simp only [Bool.false_eq_true,if_false]
     exact wpS_pure ⟨rfl,o,_,rfl,by omega,by omega,by omega,hBo⟩
  ·rintro c st' ⟨rfl,l,o,rfl,hlo,hxo,hl,hBl⟩
   exact ⟨rfl,l,o,rfl,hlo,hl,hBl,.inl (by omega)⟩
  ·rintro c st' ⟨rfl,l,o,rfl,hlo,hl,hBl,hor⟩
   have hi1:∀ i,hint - l≤i->i < n->B i=false:=fun i h1 h2=>neg (hint - l) i h1 h2 hBl
   have lo1:∀ i,i < hint + 1 - min o (hint + 1)->B i=true:=fun i hi=>by
    rcases hor with z | ⟨z1,z2⟩
    ·omega
    ·exact mono i (hint - o) (by omega) (by omega) z2
   dsimp only
   refine wpS_bind (wpS_mono (wpS_forRange (I:=fun x c st''=>st''=st'/\∃ a b,c=(none,a,b)/\a≤b/\b≤n/\b - a≤n - x/\(∀ i,i < a->B i=true)/\∀ i,b≤i->i < n->B i=false)
    (Q:=fun c st''=>st''=st'/\∃ a,c=(none,a,a)/\a≤n/\(∀ i,i < a->B i=true)/\∀ i,a≤i->i < n->B i=false) ?_ ?_ ⟨rfl,_,_,rfl,by omega,by omega,by omega,lo1,hi1⟩) ?_)
   ·rintro x c st'' _ hx ⟨rfl,a,b,rfl,hab,hbn,hm,ha,hb'⟩
    dsimp only
    by_cases c:a ≥ b
    ·rw [if_pos c]
     have:a=b:=by omega
     subst this
     exact wpS_pure ⟨rfl,a,rfl,hbn,ha,hb'⟩
    ·rw [if_neg c]
     refine wpS_bind (byd (a + (b - a) / 2) (by omega) _ ?_)
     dsimp only
     cases hm':B (a + (b - a) / 2) with
     | true =>
      simp only [if_true]
      exact wpS_pure ⟨rfl,_,_,rfl,by omega,by omega,by omega,fun i hi=>mono i _ (by omega) (by omega) hm',hb'⟩
     | false =>
      simp only [Bool.false_eq_true,if_false]
      exact wpS_pure ⟨rfl,_,_,rfl,by omega,by omega,by omega,ha,fun i h1 h2=>neg _ i h1 h2 hm'⟩
   ·rintro c st'' ⟨rfl,a,b,rfl,hab,hbn,hm,ha,hb'⟩
    have:a=b:=by omega
    subst this
    exact ⟨rfl,a,rfl,hbn,ha,hb'⟩
   ·rintro c st'' ⟨rfl,a,rfl,han,ha,hb'⟩
    exact wpS_pure (h a han ha hb')
end
abbrev Asc (c:Nat->Nat->Bool)(l:List Nat):Prop:=l.Pairwise fun x y=>c y x=false
structure Mg (c:Nat->Nat->Bool)(la lb lo:List Nat)(ia ib:Nat):Prop where
 perm:(lo ++ la.drop ia ++ lb.drop ib).Perm (la ++ lb)
 srt:Asc c lo
 fa:∀ x∈lo,∀ y∈la.drop ia,c y x=false
 fb:∀ x∈lo,∀ y∈lb.drop ib,c y x=false
section
variable {c:Nat->Nat->Bool}{la lb lo:List Nat}{ia ib:Nat}
theorem Mg.takeA (h:Mg c la lb lo ia ib)(sa:Asc c la)(hi:ia < la.length)(hb:∀ y∈lb.drop ib,c y la[ia]=false):Mg c la lb (lo ++ [la[ia]]) (ia + 1) ib:=by
 have e:=List.drop_eq_getElem_cons hi
 have sd:Asc c (la.drop ia):=sa.sublist (List.drop_sublist _ _)
 have p:=h.perm
 have fa:=h.fa
 rw [e] at sd p fa
 refine ⟨?_,?_,?_,?_⟩
 ·simpa using p
 ·refine List.pairwise_append.mpr ⟨h.srt,List.pairwise_singleton _ _,fun x hx y hy=>?_⟩
  have ey:y=la[ia]:=List.mem_singleton.mp hy
  rw [ey]
  exact fa x hx _ List.mem_cons_self
 ·intro x hx y hy
  rcases List.mem_append.mp hx with q | q
  ·exact fa x q y (List.mem_cons_of_mem _ hy)
  ·have ex:x=la[ia]:=List.mem_singleton.mp q
   rw [ex]
   exact (List.pairwise_cons.mp sd).1 y hy
 ·intro x hx y hy
  rcases List.mem_append.mp hx with q | q
  ·exact h.fb x q y hy
  ·have ex:x=la[ia]:=List.mem_singleton.mp q
   rw [ex]
   exact hb y hy
theorem Mg.takeB (h:Mg c la lb lo ia ib)(sb:Asc c lb)(hi:ib < lb.length)(ha:∀ y∈la.drop ia,c y lb[ib]=false):Mg c la lb (lo ++ [lb[ib]]) ia (ib + 1):=by
 have e:=List.drop_eq_getElem_cons hi
 have sd:Asc c (lb.drop ib):=sb.sublist (List.drop_sublist _ _)
 have p:=h.perm
 have fb:=h.fb
 rw [e] at sd p fb
 refine ⟨?_,?_,?_,?_⟩
 ·refine List.Perm.trans ?_ p
  have:=(List.perm_middle (a:=lb[ib]) (l₁:=lo ++ la.drop ia) (l₂:=lb.drop (ib + 1))).symm
  refine List.Perm.trans ?_ this
  have q:=List.perm_middle (a:=lb[ib]) (l₁:=lo) (l₂:=la.drop ia ++ lb.drop (ib + 1))
  simpa using q
 ·refine List.pairwise_append.mpr ⟨h.srt,List.pairwise_singleton _ _,fun x hx y hy=>?_⟩
  have ey:y=lb[ib]:=List.mem_singleton.mp hy
  rw [ey]
  exact fb x hx _ List.mem_cons_self
 ·intro x hx y hy
  rcases List.mem_append.mp hx with q | q
  ·exact h.fa x q y hy
  ·have ex:x=lb[ib]:=List.mem_singleton.mp q
   rw [ex]
   exact ha y hy
 ·intro x hx y hy
  rcases List.mem_append.mp hx with q | q
  ·exact fb x q y (List.mem_cons_of_mem _ hy)
  ·have ex:x=lb[ib]:=List.mem_singleton.mp q
   rw [ex]
   exact (List.pairwise_cons.mp sd).1 y hy
theorem qex {l:List Nat}{i k:Nat}(h:i + k < l.length):(l.drop i).take (k + 1)=(l.drop i).take k ++ [l[i + k]]:=by
 rw [List.take_succ_eq_append_getElem (by rw [List.length_drop]; omega)]
 simp
theorem qbe (O:Ord c){l:List Nat}(s:Asc c l){i:Nat}(hi:i < l.length):∀ y∈l.drop i,c y l[i]=false:=by
 rw [List.drop_eq_getElem_cons hi]
 intro y hy
 rcases List.mem_cons.mp hy with rfl | q
 ·exact O.irr _
 ·have sd:Asc c (l.drop i):=s.sublist (List.drop_sublist _ _)
  rw [List.drop_eq_getElem_cons hi] at sd
  exact (List.pairwise_cons.mp sd).1 y q
theorem Mg.takeAs (O:Ord c)(h:Mg c la lb lo ia ib)(sa:Asc c la)(sb:Asc c lb)(hb:ib < lb.length):∀ (k:Nat),ia + k≤la.length->(∀ i,i < k->∀ q:ia + i < la.length,c lb[ib] la[ia + i]=false)->Mg c la lb (lo ++ (la.drop ia).take k) (ia + k) ib
 | 0,_,_=>by simpa using h
 | k + 1,hk,hc=>by
  have ih:=Mg.takeAs O h sa sb hb k (by omega) fun i hi=>hc i (by omega)
  rw [qex (by omega),<- List.append_assoc]
  refine ih.takeA sa (by omega) fun y hy=>?_
  exact O.tr _ _ _ (hc k (by omega) (by omega)) (qbe O sb hb y hy)
theorem Mg.takeBs (O:Ord c)(h:Mg c la lb lo ia ib)(sa:Asc c la)(sb:Asc c lb)(ha:ia < la.length):∀ (k:Nat),ib + k≤lb.length->(∀ i,i < k->∀ q:ib + i < lb.length,c lb[ib + i] la[ia]=true)->Mg c la lb (lo ++ (lb.drop ib).take k) ia (ib + k)
 | 0,_,_=>by simpa using h
 | k + 1,hk,hc=>by
  have ih:=Mg.takeBs O h sa sb ha k (by omega) fun i hi=>hc i (by omega)
  rw [qex (by omega),<- List.append_assoc]
  refine ih.takeB sb (by omega) fun y hy=>?_
  exact O.tr _ _ _ (O.asym _ _ (hc k (by omega) (by omega))) (qbe O sa ha y hy)
theorem Mg.endB (h:Mg c la lb lo ia lb.length)(sa:Asc c la):(lo ++ la.drop ia).Perm (la ++ lb)/\Asc c (lo ++ la.drop ia):=by
 have p:=h.perm
 rw [List.drop_length,List.append_nil] at p
 exact ⟨p,List.pairwise_append.mpr ⟨h.srt,sa.sublist (List.drop_sublist _ _),h.fa⟩⟩
theorem Mg.endA (h:Mg c la lb lo la.length ib)(sb:Asc c lb):(lo ++ lb.drop ib).Perm (la ++ lb)/\Asc c (lo ++ lb.drop ib):=by
 have p:=h.perm
 rw [List.drop_length,List.append_nil] at p
 exact ⟨p,List.pairwise_append.mpr ⟨h.srt,sb.sublist (List.drop_sublist _ _),h.fb⟩⟩
theorem Mg.last (h:Mg c la lb lo ia ib)(sb:Asc c lb)(hi:ia + 1=la.length)(hl:∀ y∈lb,c la[ia] y=false):(lo ++ lb.drop ib ++ la.drop ia).Perm (la ++ lb)/\Asc c (lo ++ lb.drop ib ++ la.drop ia):=by
 have e:la.drop ia=[la[ia]]:=by rw [List.drop_eq_getElem_cons (by omega),List.drop_of_length_le (by omega)]
 refine ⟨List.Perm.trans ?_ h.perm,?_⟩
 ·rw [List.append_assoc,List.append_assoc]
  exact List.Perm.append_left _ List.perm_append_comm
 ·refine List.pairwise_append.mpr ⟨List.pairwise_append.mpr ⟨h.srt,sb.sublist (List.drop_sublist _ _),h.fb⟩,by rw [e]; exact List.pairwise_singleton _ _,fun x hx y hy=>?_⟩
  rcases List.mem_append.mp hx with q | q
  ·exact h.fa x q y hy
  ·rw [e] at hy
   have ey:y=la[ia]:=List.mem_singleton.mp hy
   rw [ey]
   exact hl x (List.mem_of_mem_drop q)
end
def qj8:Array Keyed->Array Keyed->StateT SortSt Sem (Array Keyed):=sortPriv% PySem.Builtin.mergeLo
section
variable {prog:Program}{w:World}{A:Around}{E:Value->Shared->Prop}{s:Shared}
abbrev kvs (kv:Nat->Keyed)(l:List Nat):Array Keyed:=(l.map kv).toArray
abbrev qaw (st:SortSt)(g:Nat):SortSt:=SortSt.mk' (kindOf st) (arrOf st) (pendingOf st) g (failedOf st)
theorem qaq {kv:Nat->Keyed}{l:List Nat}{i:Nat}(h:i < l.length):(kvs kv l)[i]?=some (kv l[i]):=by simp [h]
theorem qam (kv:Nat->Keyed)(l:List Nat):(kvs kv l).size=l.length:=by simp
theorem qa1 (kv:Nat->Keyed)(l m:List Nat):kvs kv l ++ kvs kv m=kvs kv (l ++ m):=by simp
theorem qaT (kv:Nat->Keyed)(l:List Nat)(x:Nat):(kvs kv l).push (kv x)=kvs kv (l ++ [x]):=by simp
theorem qdP (kv:Nat->Keyed)(l:List Nat)(i k:Nat):(kvs kv l).extract i (i + k)=kvs kv ((l.drop i).take k):=by
 apply Array.toList_inj.mp
 simp [List.extract_eq_take_drop,List.map_drop,List.map_take]
theorem qcv (kv:Nat->Keyed)(l:List Nat)(i:Nat):(kvs kv l).extract i (kvs kv l).size=kvs kv (l.drop i):=by
 apply Array.toList_inj.mp
 simp only [Array.toList_extract,List.extract_eq_take_drop,qam]
 rw [List.take_of_length_le (by simp),<- List.map_drop]
theorem qaa {l:List Nat}{i:Nat}(h:i < l.length):l.getD i 0=l[i]:=by simp [h]
theorem getD_mem {l:List Nat}{i:Nat}(h:i < l.length):l.getD i 0∈l:=by rw [qaa h]; exact List.getElem_mem h
theorem qb1 {c:Nat->Nat->Bool}(O:Ord c){l:List Nat}(s:Asc c l){i j:Nat}(hij:i≤j)(hj:j < l.length):c l[j] (l[i]'(by omega))=false:=by
 rcases Nat.lt_or_ge i j with q | q
 ·exact List.pairwise_iff_getElem.mp s i j (by omega) hj q
 ·have:i=j:=by omega
  subst this; exact O.irr _
theorem qcp {c:Nat->Nat->Bool}(O:Ord c){l:List Nat}(s:Asc c l){i j x:Nat}(hi:i < l.length)(hj:j < l.length)(hij:i≤j)(h:c l[j] x=true):c l[i] x=true:=by
 cases e:c l[i] x with
 | true=>rfl
 | false=>have:=O.tr _ _ _ e (qb1 O s hij hj); rw [this] at h; exact absurd h (by decide)
theorem qfd {c:Nat->Nat->Bool}(O:Ord c){l:List Nat}(s:Asc c l){i j x:Nat}(hi:i < l.length)(hj:j < l.length)(hij:i≤j)(h:c x l[j]=false):c x l[i]=false:=O.tr _ _ _ (qb1 O s hij hj) h
theorem Mg.size {c:Nat->Nat->Bool}{la lb lo:List Nat}{ia ib:Nat}(h:Mg c la lb lo ia ib):lo.length + (la.length - ia) + (lb.length - ib)=la.length + lb.length:=by
 have:=h.perm.length_eq
 simp only [List.length_append,List.length_drop] at this
 omega
def Fin' (c:Nat->Nat->Bool)(kv:Nat->Keyed)(la lb:List Nat)(r:Array Keyed):Prop:=∃ l,r=kvs kv l/\l.Perm (la ++ lb)/\Asc c l
structure Jn (c:Nat->Nat->Bool)(la lb lo:List Nat)(ia ib:Nat):Prop where
 mg:Mg c la lb lo ia ib
 ha:ia + 1 < la.length
 hb:ib < lb.length
theorem qfh {c:Nat->Nat->Bool}(O:Ord c){kv:Nat->Keyed}{la lb:List Nat}{st:SortSt}{Q:Array Keyed->SortSt->Prop}(sa:Asc c la)(sb:Asc c lb)(a1:1≤la.length)(b1:1≤lb.length)
  (lt:∀ x∈la,∀ y∈lb,∀ (g:Nat) (Q:Option Bool->SortSt->Prop),Q (some (c x y)) (qaw st g)->wpS (model prog w) A E s (lt' (kv x) (kv y)) Q (qaw st g)) (gt:∀ x∈la,∀ y∈lb,∀ (g:Nat) (Q:Option Bool->SortSt->Prop),Q (some (c y x)) (qaw st g)->wpS (model prog w) A E s (lt' (kv y) (kv x)) Q (qaw st g))
  (hl:∀ y∈lb,c la[la.length - 1] y=false) (hf:∀ y∈la,c y lb[0]=false)
  (h:∀ (r:Array Keyed) (g:Nat),Fin' c kv la lb r->Q r (qaw st g)):wpS (model prog w) A E s (qj8 (kvs kv la) (kvs kv lb)) Q st:=by
 have m0:Mg c la lb [] 0 0:=⟨by simp,.nil,fun x hx=>by simp at hx,fun x hx=>by simp at hx⟩
 have m1:Mg c la lb [lb[0]] 0 1:=by
  have:=m0.takeB sb b1 fun y hy=>hf y (by simpa using hy)
  simpa using this
 have lastA:∀ {lo:List Nat} {ia ib:Nat},Mg c la lb lo ia ib->ia + 1=la.length->Fin' c kv la lb (kvs kv lo ++ (kvs kv lb).extract ib (kvs kv lb).size ++ (kvs kv la).extract ia (kvs kv la).size):=by
  intro lo ia ib m e
  have el:la[la.length - 1]=la[ia]:=by congr 1; omega
  obtain ⟨p,q⟩:=m.last sb e (fun y hy=>by rw [<- el]; exact hl y hy)
  exact ⟨_,by rw [qcv,qcv,qa1,qa1],p,q⟩
 have endB:∀ {lo:List Nat} {ia ib:Nat},Mg c la lb lo ia ib->ib=lb.length->Fin' c kv la lb (kvs kv lo ++ (kvs kv la).extract ia (kvs kv la).size ++ (kvs kv lb).extract ib (kvs kv lb).size):=by
  intro lo ia ib m e
  subst e
  obtain ⟨p,q⟩:=m.endB sa
  refine ⟨_,?_,p,q⟩
  rw [qcv,qcv,qa1,qa1,List.drop_length,List.append_nil]
 have endA:∀ {lo:List Nat} {ia ib:Nat},Mg c la lb lo ia ib->ia=la.length->Fin' c kv la lb (kvs kv lo ++ (kvs kv la).extract ia (kvs kv la).size ++ (kvs kv lb).extract ib (kvs kv lb).size):=by
  intro lo ia ib m e
  subst e
  obtain ⟨p,q⟩:=m.endA sb
  refine ⟨_,?_,p,q⟩
  rw [qcv,qcv,qa1,qa1,List.drop_length,List.append_nil]
 refine wpS_bind (wpS_lift (wpAny_rule ⟨rfl,?_⟩))
 refine wpS_bind (qac (x:=kv lb[0]) (qaq b1) ?_)
 have e0:(#[kv lb[0]]:Array Keyed)=kvs kv [lb[0]]:=rfl
 dsimp only
 rw [e0]
 by_cases c1:1=lb.length
 ·rw [if_pos (by simpa using c1)]
  exact wpS_pure (h _ (gallopOf st) (endB m1 c1))
 rw [if_neg (by simpa using c1)]
 by_cases c2:0 + 1=la.length
 ·rw [if_pos (by simpa using c2)]
  exact wpS_pure (h _ (gallopOf st) (lastA m1 c2))
 rw [if_neg (by simpa using c2)]
 refine wpS_bind (wpS_get ?_)
 have j1:Jn c la lb [lb[0]] 0 1:=⟨m1,by omega,by omega⟩
 refine wpS_bind (wpS_mono (wpS_forRange (I:=fun x z st'=>(∃ g,st'=qaw st g)/\∃ lo ia ib mg,z=(none,kvs kv lo,ia,ib,mg)/\Jn c la lb lo ia ib/\1 + x≤lo.length)
  (Q:=fun z st'=>(∃ g,st'=qaw st g)/\∃ r t,z=(some r,t)/\Fin' c kv la lb r) ?_ ?_ ⟨⟨gallopOf st,rfl⟩,_,_,_,_,rfl,j1,by simp⟩) ?_)
 ·rintro x z st' _ hx ⟨⟨g,rfl⟩,lo,ia,ib,mg,rfl,j,hlen⟩
  dsimp only
  refine wpS_bind (wpS_mono (wpS_forRange (I:=fun x z st'=>st'=qaw st g/\∃ lo' ia ib ac bc,z=(none,kvs kv lo',ia,ib,ac,bc)/\Jn c la lb lo' ia ib/\lo.length + x≤lo'.length)
   (Q:=fun z st'=>st'=qaw st g/\((∃ r t,z=(some r,t)/\Fin' c kv la lb r)\/∃ lo' ia ib ac bc,z=(none,kvs kv lo',ia,ib,ac,bc)/\Jn c la lb lo' ia ib/\lo.length + 1≤lo'.length)) ?_ ?_ ⟨rfl,_,_,_,_,_,rfl,j,by simp⟩) ?_)
  ·rintro x z st' _ hx ⟨rfl,lo',ia,ib,ac,bc,rfl,j,hlen'⟩
   have ha:=j.ha
   have hb:=j.hb
   dsimp only
   refine wpS_bind (qac (qaq hb) (wpS_bind (qac (qaq (show ia < la.length by omega)) ?_)))
   refine wpS_bind (gt _ (List.getElem_mem _) _ (List.getElem_mem _) g _ ?_)
   dsimp only
   cases hw:c lb[ib] la[ia] with
   | true =>
    simp only [if_true]
    have m2:=j.mg.takeB sb hb fun y hy=>O.tr _ _ _ (O.asym _ _ hw) (qbe O sa (by omega) y hy)
    refine wpS_bind (qac (qaq hb) ?_)
    rw [qaT]
    by_cases e:ib + 1=lb.length
    ·rw [if_pos (by simpa using e)]
     exact wpS_pure ⟨rfl,.inl ⟨_,_,rfl,endB m2 e⟩⟩
    ·rw [if_neg (by simpa using e)]
     have j2:Jn c la lb (lo' ++ [lb[ib]]) ia (ib + 1):=⟨m2,ha,by omega⟩
     split
     ·exact wpS_pure ⟨rfl,.inr ⟨_,_,_,_,_,rfl,j2,by simp; omega⟩⟩
     ·exact wpS_pure ⟨rfl,_,_,_,_,_,rfl,j2,by simp; omega⟩
   | false =>
    simp only [Bool.false_eq_true,if_false]
    have m2:=j.mg.takeA sa (show ia < la.length by omega) fun y hy=>O.tr _ _ _ hw (qbe O sb hb y hy)
    refine wpS_bind (qac (qaq (show ia < la.length by omega)) ?_)
    rw [qaT]
    by_cases e:ia + 1 + 1=la.length
    ·rw [if_pos (by simpa using e)]
     exact wpS_pure ⟨rfl,.inl ⟨_,_,rfl,lastA m2 e⟩⟩
    ·rw [if_neg (by simpa using e)]
     have j2:Jn c la lb (lo' ++ [la[ia]]) (ia + 1) ib:=⟨m2,by omega,hb⟩
     split
     ·exact wpS_pure ⟨rfl,.inr ⟨_,_,_,_,_,rfl,j2,by simp; omega⟩⟩
     ·exact wpS_pure ⟨rfl,_,_,_,_,_,rfl,j2,by simp; omega⟩
  ·rintro z st' ⟨rfl,lo',ia,ib,ac,bc,rfl,j,hlen'⟩
   have:=j.mg.size
   have:=j.ha
   have:=j.hb
   simp at hlen'
   omega
  ·rintro z st' ⟨rfl,⟨r,t,rfl,hr⟩ | ⟨lo',ia,ib,ac,bc,rfl,j,hlen'⟩⟩
   ·exact wpS_pure ⟨⟨g,rfl⟩,_,_,rfl,hr⟩
   dsimp only
   refine wpS_bind (wpS_lift (wpAny_rule ⟨rfl,?_⟩))
   refine wpS_bind (wpS_mono (wpS_forRange (I:=fun x z st'=>(∃ g,st'=qaw st g)/\∃ lo'' ia ib mg ac bc,z=(none,kvs kv lo'',ia,ib,mg,ac,bc)/\Jn c la lb lo'' ia ib/\lo'.length + x≤lo''.length)
    (Q:=fun z st'=>(∃ g,st'=qaw st g)/\((∃ r t,z=(some r,t)/\Fin' c kv la lb r)\/∃ lo'' ia ib mg ac bc,z=(none,kvs kv lo'',ia,ib,mg,ac,bc)/\Jn c la lb lo'' ia ib/\lo'.length≤lo''.length)) ?_ ?_ ⟨⟨g,rfl⟩,_,_,_,_,_,_,rfl,j,by simp⟩) ?_)
   ·rintro x z st' _ hx ⟨⟨g',rfl⟩,lo2,ia,ib,mg,ac,bc,rfl,j,hlen2⟩
    have ha:=j.ha
    have hb:=j.hb
    dsimp only
    by_cases gg:mg > 1
    ·rw [if_pos gg]
     refine wpS_bind (wpS_modify ?_)
     refine wpS_bind (qac (qaq hb) ?_)
     refine wpS_bind (qav (st:=qaw st (mg - 1)) (fun i=>!(c lb[ib] (la.getD (ia + i) 0))) (fun i j' hij hj q=>?_) (by rw [qam]; omega) (fun i hi=>⟨kv (la.getD (ia + i) 0),?_,fun Q' z _=>absurd z (by decide),fun Q' _ hQ=>gt _ (getD_mem (by rw [qam] at hi; omega)) _ (List.getElem_mem _) _ _ (by simpa using hQ)⟩) fun k hk hT hF=>?_)
     ·rw [qam] at hj
      rw [qaa (show ia + i < la.length by omega)]
      rw [qaa (show ia + j' < la.length by omega)] at q
      have q':c lb[ib] la[ia + j']=false:=by simpa using q
      have:=O.tr _ _ _ (qb1 O sa (i:=ia + i) (j:=ia + j') (by omega) (by omega)) q'
      simpa using qfd O sa (by omega) (by omega) (by omega) q'
     ·rw [qam] at hi
      rw [qaq (show ia + i < la.length by omega),qaa (show ia + i < la.length by omega)]
     rw [qam] at hk hF
     dsimp only
     have m2:=j.mg.takeAs O sa sb hb k (by omega) fun i hi q=>by
      have:=hT i hi
      rw [qaa q] at this
      simpa using this
     have hB2:∀ p,ia + k≤p->∀ q:p < la.length,c lb[ib] la[p]=true:=fun p hp q=>by
      have:=hF (p - ia) (by omega) (by omega)
      rw [show ia + (p - ia)=p by omega,qaa q] at this
      simpa using this
     by_cases k0:k > 0
     ·rw [if_pos k0,qdP,qa1]
      by_cases e1:ia + k + 1=la.length
      ·rw [if_pos (by simpa using e1)]
       exact wpS_pure ⟨⟨_,rfl⟩,.inl ⟨_,_,rfl,lastA m2 e1⟩⟩
      rw [if_neg (by simpa using e1)]
      by_cases e2:ia + k=la.length
      ·rw [if_pos (by simpa using e2)]
       exact wpS_pure ⟨⟨_,rfl⟩,.inl ⟨_,_,rfl,endA m2 e2⟩⟩
      rw [if_neg (by simpa using e2)]
      have hak:(ia + k) < la.length:=by omega
      have cut:c lb[ib] la[(ia + k)]=true:=hB2 (ia + k) (by omega) hak
      have m3:=m2.takeB sb hb fun y hy=>O.tr _ _ _ (O.asym _ _ cut) (qbe O sa hak y hy)
      refine wpS_bind (qac (qaq hb) ?_)
      rw [qaT]
      by_cases e3:ib + 1=lb.length
      ·rw [if_pos (by simpa using e3)]
       exact wpS_pure ⟨⟨_,rfl⟩,.inl ⟨_,_,rfl,endB m3 e3⟩⟩
      rw [if_neg (by simpa using e3)]
      refine wpS_bind (qac (qaq hak) ?_)
      refine wpS_bind (qav (st:=qaw st (mg - 1)) (fun i=>c (lb.getD (ib + 1 + i) 0) la[(ia + k)]) (fun i j' hij hj q=>?_) (by rw [qam]; omega) (fun i hi=>⟨kv (lb.getD (ib + 1 + i) 0),?_,fun Q' _ hQ=>gt _ (List.getElem_mem _) _ (getD_mem (by rw [qam] at hi; omega)) _ _ hQ,fun Q' z _=>absurd z (by decide)⟩) fun k2 hk2 hT hF=>?_)
      ·rw [qam] at hj
       rw [qaa (show ib + 1 + i < lb.length by omega)]
       rw [qaa (show ib + 1 + j' < lb.length by omega)] at q
       exact qcp O sb (by omega) (by omega) (by omega) q
      ·rw [qam] at hi
       rw [qaq (show ib + 1 + i < lb.length by omega),qaa (show ib + 1 + i < lb.length by omega)]
      rw [qam] at hk2 hF
      dsimp only
      have m4:=m3.takeBs O sa sb hak k2 (by omega) fun i hi q=>by
       have:=hT i hi
       rwa [qaa (show ib + 1 + i < lb.length by omega)] at this
      have fb2:∀ y∈lb.drop (ib + 1 + k2),c y la[(ia + k)]=false:=fun y hy=>by
       by_cases z:ib + 1 + k2 < lb.length
       ·have z2:=hF k2 (Nat.le_refl _) (by omega)
        rw [qaa z] at z2
        exact O.tr _ _ _ z2 (qbe O sb z y hy)
       ·rw [List.drop_of_length_le (by omega)] at hy
        simp at hy
      by_cases k20:k2 > 0
      ·rw [if_pos k20,qdP,qa1]
       by_cases e4:ib + 1 + k2=lb.length
       ·rw [if_pos (by simpa using e4)]
        exact wpS_pure ⟨⟨_,rfl⟩,.inl ⟨_,_,rfl,endB m4 e4⟩⟩
       rw [if_neg (by simpa using e4)]
       have m5:=m4.takeA sa hak fb2
       refine wpS_bind (qac (qaq (show (ia + k) < la.length by omega)) ?_)
       rw [qaT]
       by_cases e5:(ia + k) + 1 + 1=la.length
       ·rw [if_pos (by simpa using e5)]
        exact wpS_pure ⟨⟨_,rfl⟩,.inl ⟨_,_,rfl,lastA m5 e5⟩⟩
       rw [if_neg (by simpa using e5)]
       split
       ·exact wpS_pure ⟨⟨_,rfl⟩,.inr ⟨_,_,_,_,_,_,rfl,⟨m5,by omega,by omega⟩,by simp; omega⟩⟩
       ·exact wpS_pure ⟨⟨_,rfl⟩,_,_,_,_,_,_,rfl,⟨m5,by omega,by omega⟩,by simp; omega⟩
      ·rw [if_neg k20]
       obtain rfl:k2=0:=by omega
       have m5:=m3.takeA sa hak (by simpa using fb2)
       refine wpS_bind (qac (qaq (show (ia + k) < la.length by omega)) ?_)
       rw [qaT]
       by_cases e5:(ia + k) + 1 + 1=la.length
       ·rw [if_pos (by simpa using e5)]
        exact wpS_pure ⟨⟨_,rfl⟩,.inl ⟨_,_,rfl,lastA m5 e5⟩⟩
       rw [if_neg (by simpa using e5)]
       split
       ·exact wpS_pure ⟨⟨_,rfl⟩,.inr ⟨_,_,_,_,_,_,rfl,⟨m5,by omega,by omega⟩,by simp; omega⟩⟩
       ·exact wpS_pure ⟨⟨_,rfl⟩,_,_,_,_,_,_,rfl,⟨m5,by omega,by omega⟩,by simp; omega⟩
     ·rw [if_neg k0]
      obtain rfl:k=0:=by omega
      replace m2:=j.mg
      have hak:ia < la.length:=by omega
      have cut:c lb[ib] la[ia]=true:=hB2 ia (by omega) hak
      have m3:=m2.takeB sb hb fun y hy=>O.tr _ _ _ (O.asym _ _ cut) (qbe O sa hak y hy)
      refine wpS_bind (qac (qaq hb) ?_)
      rw [qaT]
      by_cases e3:ib + 1=lb.length
      ·rw [if_pos (by simpa using e3)]
       exact wpS_pure ⟨⟨_,rfl⟩,.inl ⟨_,_,rfl,endB m3 e3⟩⟩
      rw [if_neg (by simpa using e3)]
      refine wpS_bind (qac (qaq hak) ?_)
      refine wpS_bind (qav (st:=qaw st (mg - 1)) (fun i=>c (lb.getD (ib + 1 + i) 0) la[ia]) (fun i j' hij hj q=>?_) (by rw [qam]; omega) (fun i hi=>⟨kv (lb.getD (ib + 1 + i) 0),?_,fun Q' _ hQ=>gt _ (List.getElem_mem _) _ (getD_mem (by rw [qam] at hi; omega)) _ _ hQ,fun Q' z _=>absurd z (by decide)⟩) fun k2 hk2 hT hF=>?_)
      ·rw [qam] at hj
       rw [qaa (show ib + 1 + i < lb.length by omega)]
       rw [qaa (show ib + 1 + j' < lb.length by omega)] at q
       exact qcp O sb (by omega) (by omega) (by omega) q
      ·rw [qam] at hi
       rw [qaq (show ib + 1 + i < lb.length by omega),qaa (show ib + 1 + i < lb.length by omega)]
      rw [qam] at hk2 hF
      dsimp only
      have m4:=m3.takeBs O sa sb hak k2 (by omega) fun i hi q=>by
       have:=hT i hi
       rwa [qaa (show ib + 1 + i < lb.length by omega)] at this
      have fb2:∀ y∈lb.drop (ib + 1 + k2),c y la[ia]=false:=fun y hy=>by
       by_cases z:ib + 1 + k2 < lb.length
       ·have z2:=hF k2 (Nat.le_refl _) (by omega)
        rw [qaa z] at z2
        exact O.tr _ _ _ z2 (qbe O sb z y hy)
       ·rw [List.drop_of_length_le (by omega)] at hy
        simp at hy
      by_cases k20:k2 > 0
      ·rw [if_pos k20,qdP,qa1]
       by_cases e4:ib + 1 + k2=lb.length
       ·rw [if_pos (by simpa using e4)]
        exact wpS_pure ⟨⟨_,rfl⟩,.inl ⟨_,_,rfl,endB m4 e4⟩⟩
       rw [if_neg (by simpa using e4)]
       have m5:=m4.takeA sa hak fb2
       refine wpS_bind (qac (qaq (show ia < la.length by omega)) ?_)
       rw [qaT]
       by_cases e5:ia + 1 + 1=la.length
       ·rw [if_pos (by simpa using e5)]
        exact wpS_pure ⟨⟨_,rfl⟩,.inl ⟨_,_,rfl,lastA m5 e5⟩⟩
       rw [if_neg (by simpa using e5)]
       split
       ·exact wpS_pure ⟨⟨_,rfl⟩,.inr ⟨_,_,_,_,_,_,rfl,⟨m5,by omega,by omega⟩,by simp; omega⟩⟩
       ·exact wpS_pure ⟨⟨_,rfl⟩,_,_,_,_,_,_,rfl,⟨m5,by omega,by omega⟩,by simp; omega⟩
      ·rw [if_neg k20]
       obtain rfl:k2=0:=by omega
       have m5:=m3.takeA sa hak (by simpa using fb2)
       refine wpS_bind (qac (qaq (show ia < la.length by omega)) ?_)
       rw [qaT]
       by_cases e5:ia + 1 + 1=la.length
       ·rw [if_pos (by simpa using e5)]
        exact wpS_pure ⟨⟨_,rfl⟩,.inl ⟨_,_,rfl,lastA m5 e5⟩⟩
       rw [if_neg (by simpa using e5)]
       split
       ·exact wpS_pure ⟨⟨_,rfl⟩,.inr ⟨_,_,_,_,_,_,rfl,⟨m5,by omega,by omega⟩,by simp; omega⟩⟩
       ·exact wpS_pure ⟨⟨_,rfl⟩,_,_,_,_,_,_,rfl,⟨m5,by omega,by omega⟩,by simp; omega⟩
    ·rw [if_neg gg]
     refine wpS_bind (wpS_modify ?_)
     refine wpS_bind (qac (qaq hb) ?_)
     refine wpS_bind (qav (st:=qaw st (mg)) (fun i=>!(c lb[ib] (la.getD (ia + i) 0))) (fun i j' hij hj q=>?_) (by rw [qam]; omega) (fun i hi=>⟨kv (la.getD (ia + i) 0),?_,fun Q' z _=>absurd z (by decide),fun Q' _ hQ=>gt _ (getD_mem (by rw [qam] at hi; omega)) _ (List.getElem_mem _) _ _ (by simpa using hQ)⟩) fun k hk hT hF=>?_)
     ·rw [qam] at hj
      rw [qaa (show ia + i < la.length by omega)]
      rw [qaa (show ia + j' < la.length by omega)] at q
      have q':c lb[ib] la[ia + j']=false:=by simpa using q
      have:=O.tr _ _ _ (qb1 O sa (i:=ia + i) (j:=ia + j') (by omega) (by omega)) q'
      simpa using qfd O sa (by omega) (by omega) (by omega) q'
     ·rw [qam] at hi
      rw [qaq (show ia + i < la.length by omega),qaa (show ia + i < la.length by omega)]
     rw [qam] at hk hF
     dsimp only
     have m2:=j.mg.takeAs O sa sb hb k (by omega) fun i hi q=>by
      have:=hT i hi
      rw [qaa q] at this
      simpa using this
     have hB2:∀ p,ia + k≤p->∀ q:p < la.length,c lb[ib] la[p]=true:=fun p hp q=>by
      have:=hF (p - ia) (by omega) (by omega)
      rw [show ia + (p - ia)=p by omega,qaa q] at this
      simpa using this
     by_cases k0:k > 0
     ·rw [if_pos k0,qdP,qa1]
      by_cases e1:ia + k + 1=la.length
      ·rw [if_pos (by simpa using e1)]
       exact wpS_pure ⟨⟨_,rfl⟩,.inl ⟨_,_,rfl,lastA m2 e1⟩⟩
      rw [if_neg (by simpa using e1)]
      by_cases e2:ia + k=la.length
      ·rw [if_pos (by simpa using e2)]
       exact wpS_pure ⟨⟨_,rfl⟩,.inl ⟨_,_,rfl,endA m2 e2⟩⟩
      rw [if_neg (by simpa using e2)]
      have hak:(ia + k) < la.length:=by omega
      have cut:c lb[ib] la[(ia + k)]=true:=hB2 (ia + k) (by omega) hak
      have m3:=m2.takeB sb hb fun y hy=>O.tr _ _ _ (O.asym _ _ cut) (qbe O sa hak y hy)
      refine wpS_bind (qac (qaq hb) ?_)
      rw [qaT]
      by_cases e3:ib + 1=lb.length
      ·rw [if_pos (by simpa using e3)]
       exact wpS_pure ⟨⟨_,rfl⟩,.inl ⟨_,_,rfl,endB m3 e3⟩⟩
      rw [if_neg (by simpa using e3)]
      refine wpS_bind (qac (qaq hak) ?_)
      refine wpS_bind (qav (st:=qaw st (mg)) (fun i=>c (lb.getD (ib + 1 + i) 0) la[(ia + k)]) (fun i j' hij hj q=>?_) (by rw [qam]; omega) (fun i hi=>⟨kv (lb.getD (ib + 1 + i) 0),?_,fun Q' _ hQ=>gt _ (List.getElem_mem _) _ (getD_mem (by rw [qam] at hi; omega)) _ _ hQ,fun Q' z _=>absurd z (by decide)⟩) fun k2 hk2 hT hF=>?_)
      ·rw [qam] at hj
       rw [qaa (show ib + 1 + i < lb.length by omega)]
       rw [qaa (show ib + 1 + j' < lb.length by omega)] at q
       exact qcp O sb (by omega) (by omega) (by omega) q
      ·rw [qam] at hi
       rw [qaq (show ib + 1 + i < lb.length by omega),qaa (show ib + 1 + i < lb.length by omega)]
      rw [qam] at hk2 hF
      dsimp only
      have m4:=m3.takeBs O sa sb hak k2 (by omega) fun i hi q=>by
       have:=hT i hi
       rwa [qaa (show ib + 1 + i < lb.length by omega)] at this
      have fb2:∀ y∈lb.drop (ib + 1 + k2),c y la[(ia + k)]=false:=fun y hy=>by
       by_cases z:ib + 1 + k2 < lb.length
       ·have z2:=hF k2 (Nat.le_refl _) (by omega)
        rw [qaa z] at z2
        exact O.tr _ _ _ z2 (qbe O sb z y hy)
       ·rw [List.drop_of_length_le (by omega)] at hy
        simp at hy
      by_cases k20:k2 > 0
      ·rw [if_pos k20,qdP,qa1]
       by_cases e4:ib + 1 + k2=lb.length
       ·rw [if_pos (by simpa using e4)]
        exact wpS_pure ⟨⟨_,rfl⟩,.inl ⟨_,_,rfl,endB m4 e4⟩⟩
       rw [if_neg (by simpa using e4)]
       have m5:=m4.takeA sa hak fb2
       refine wpS_bind (qac (qaq (show (ia + k) < la.length by omega)) ?_)
       rw [qaT]
       by_cases e5:(ia + k) + 1 + 1=la.length
       ·rw [if_pos (by simpa using e5)]
        exact wpS_pure ⟨⟨_,rfl⟩,.inl ⟨_,_,rfl,lastA m5 e5⟩⟩
       rw [if_neg (by simpa using e5)]
       split
       ·exact wpS_pure ⟨⟨_,rfl⟩,.inr ⟨_,_,_,_,_,_,rfl,⟨m5,by omega,by omega⟩,by simp; omega⟩⟩
       ·exact wpS_pure ⟨⟨_,rfl⟩,_,_,_,_,_,_,rfl,⟨m5,by omega,by omega⟩,by simp; omega⟩
      ·rw [if_neg k20]
       obtain rfl:k2=0:=by omega
       have m5:=m3.takeA sa hak (by simpa using fb2)
       refine wpS_bind (qac (qaq (show (ia + k) < la.length by omega)) ?_)
       rw [qaT]
       by_cases e5:(ia + k) + 1 + 1=la.length
       ·rw [if_pos (by simpa using e5)]
        exact wpS_pure ⟨⟨_,rfl⟩,.inl ⟨_,_,rfl,lastA m5 e5⟩⟩
       rw [if_neg (by simpa using e5)]
       split
       ·exact wpS_pure ⟨⟨_,rfl⟩,.inr ⟨_,_,_,_,_,_,rfl,⟨m5,by omega,by omega⟩,by simp; omega⟩⟩
       ·exact wpS_pure ⟨⟨_,rfl⟩,_,_,_,_,_,_,rfl,⟨m5,by omega,by omega⟩,by simp; omega⟩
     ·rw [if_neg k0]
      obtain rfl:k=0:=by omega
      replace m2:=j.mg
      have hak:ia < la.length:=by omega
      have cut:c lb[ib] la[ia]=true:=hB2 ia (by omega) hak
      have m3:=m2.takeB sb hb fun y hy=>O.tr _ _ _ (O.asym _ _ cut) (qbe O sa hak y hy)
      refine wpS_bind (qac (qaq hb) ?_)
      rw [qaT]
      by_cases e3:ib + 1=lb.length
      ·rw [if_pos (by simpa using e3)]
       exact wpS_pure ⟨⟨_,rfl⟩,.inl ⟨_,_,rfl,endB m3 e3⟩⟩
      rw [if_neg (by simpa using e3)]
      refine wpS_bind (qac (qaq hak) ?_)
      refine wpS_bind (qav (st:=qaw st (mg)) (fun i=>c (lb.getD (ib + 1 + i) 0) la[ia]) (fun i j' hij hj q=>?_) (by rw [qam]; omega) (fun i hi=>⟨kv (lb.getD (ib + 1 + i) 0),?_,fun Q' _ hQ=>gt _ (List.getElem_mem _) _ (getD_mem (by rw [qam] at hi; omega)) _ _ hQ,fun Q' z _=>absurd z (by decide)⟩) fun k2 hk2 hT hF=>?_)
      ·rw [qam] at hj
       rw [qaa (show ib + 1 + i < lb.length by omega)]
       rw [qaa (show ib + 1 + j' < lb.length by omega)] at q
       exact qcp O sb (by omega) (by omega) (by omega) q
      ·rw [qam] at hi
       rw [qaq (show ib + 1 + i < lb.length by omega),qaa (show ib + 1 + i < lb.length by omega)]
      rw [qam] at hk2 hF
      dsimp only
      have m4:=m3.takeBs O sa sb hak k2 (by omega) fun i hi q=>by
       have:=hT i hi
       rwa [qaa (show ib + 1 + i < lb.length by omega)] at this
      have fb2:∀ y∈lb.drop (ib + 1 + k2),c y la[ia]=false:=fun y hy=>by
       by_cases z:ib + 1 + k2 < lb.length
       ·have z2:=hF k2 (Nat.le_refl _) (by omega)
        rw [qaa z] at z2
        exact O.tr _ _ _ z2 (qbe O sb z y hy)
       ·rw [List.drop_of_length_le (by omega)] at hy
        simp at hy
      by_cases k20:k2 > 0
      ·rw [if_pos k20,qdP,qa1]
       by_cases e4:ib + 1 + k2=lb.length
       ·rw [if_pos (by simpa using e4)]
        exact wpS_pure ⟨⟨_,rfl⟩,.inl ⟨_,_,rfl,endB m4 e4⟩⟩
       rw [if_neg (by simpa using e4)]
       have m5:=m4.takeA sa hak fb2
       refine wpS_bind (qac (qaq (show ia < la.length by omega)) ?_)
       rw [qaT]
       by_cases e5:ia + 1 + 1=la.length
       ·rw [if_pos (by simpa using e5)]
        exact wpS_pure ⟨⟨_,rfl⟩,.inl ⟨_,_,rfl,lastA m5 e5⟩⟩
       rw [if_neg (by simpa using e5)]
       split
       ·exact wpS_pure ⟨⟨_,rfl⟩,.inr ⟨_,_,_,_,_,_,rfl,⟨m5,by omega,by omega⟩,by simp; omega⟩⟩
       ·exact wpS_pure ⟨⟨_,rfl⟩,_,_,_,_,_,_,rfl,⟨m5,by omega,by omega⟩,by simp; omega⟩
      ·rw [if_neg k20]
       obtain rfl:k2=0:=by omega
       have m5:=m3.takeA sa hak (by simpa using fb2)
       refine wpS_bind (qac (qaq (show ia < la.length by omega)) ?_)
       rw [qaT]
       by_cases e5:ia + 1 + 1=la.length
       ·rw [if_pos (by simpa using e5)]
        exact wpS_pure ⟨⟨_,rfl⟩,.inl ⟨_,_,rfl,lastA m5 e5⟩⟩
       rw [if_neg (by simpa using e5)]
       split
       ·exact wpS_pure ⟨⟨_,rfl⟩,.inr ⟨_,_,_,_,_,_,rfl,⟨m5,by omega,by omega⟩,by simp; omega⟩⟩
       ·exact wpS_pure ⟨⟨_,rfl⟩,_,_,_,_,_,_,rfl,⟨m5,by omega,by omega⟩,by simp; omega⟩
   ·rintro z st' ⟨⟨g',rfl⟩,lo2,ia,ib,mg,ac,bc,rfl,j,hlen2⟩
    have:=j.mg.size
    have:=j.ha
    have:=j.hb
    simp at hlen2
    omega
   ·rintro z st' ⟨⟨g',rfl⟩,⟨r,t,rfl,hr⟩ | ⟨lo2,ia,ib,mg,ac,bc,rfl,j,hlen2⟩⟩
    ·exact wpS_pure ⟨⟨g',rfl⟩,_,_,rfl,hr⟩
    dsimp only
    refine wpS_bind (wpS_modify ?_)
    exact wpS_pure ⟨⟨_,rfl⟩,_,_,_,_,rfl,j,by omega⟩
 ·rintro z st' ⟨⟨g,rfl⟩,lo,ia,ib,mg,rfl,j,hlen⟩
  have:=j.mg.size
  have:=j.ha
  have:=j.hb
  simp at hlen
  omega
 ·rintro z st' ⟨⟨g,rfl⟩,r,t,rfl,hr⟩
  exact wpS_pure (h r g hr)
end
def qj9:Array Keyed->Array Keyed->StateT SortSt Sem (Array Keyed):=sortPriv% PySem.Builtin.mergeHi
structure Mh (c:Nat->Nat->Bool)(la lb lo:List Nat)(na nb:Nat):Prop where
 perm:(la.take na ++ lb.take nb ++ lo).Perm (la ++ lb)
 srt:Asc c lo
 fa:∀ x∈la.take na,∀ y∈lo,c y x=false
 fb:∀ x∈lb.take nb,∀ y∈lo,c y x=false
section
variable {c:Nat->Nat->Bool}{la lb lo:List Nat}{na nb:Nat}
theorem qbq {l:List Nat}{n:Nat}(h:n < l.length):l.take (n + 1)=l.take n ++ [l[n]]:=List.take_succ_eq_append_getElem h
theorem qd3 (O:Ord c){l:List Nat}(s:Asc c l){i:Nat}(hi:i < l.length):∀ y∈l.take (i + 1),c l[i] y=false:=by
 intro y hy
 obtain ⟨j,hj,rfl⟩:=List.mem_iff_getElem.mp hy
 rw [List.length_take] at hj
 rw [List.getElem_take]
 exact qb1 O s (by omega) hi
theorem Mh.takeA (O:Ord c)(h:Mh c la lb lo (na + 1) nb)(sa:Asc c la)(hi:na < la.length)(hb:∀ y∈lb.take nb,c la[na] y=false):Mh c la lb (la[na] :: lo) na nb:=by
 have e:=qbq hi
 have p:=h.perm
 have fa:=h.fa
 rw [e] at p fa
 refine ⟨?_,?_,?_,?_⟩
 ·refine List.Perm.trans ?_ p
  have q:=List.perm_middle (a:=la[na]) (l₁:=la.take na ++ lb.take nb) (l₂:=lo)
  have q2:=(List.perm_middle (a:=la[na]) (l₁:=la.take na) (l₂:=lb.take nb ++ lo)).symm
  refine q.trans ?_
  simpa only [List.append_assoc,List.cons_append,List.nil_append] using q2
 ·exact List.pairwise_cons.mpr ⟨fun y hy=>fa _ (List.mem_append_right _ List.mem_cons_self) y hy,h.srt⟩
 ·intro x hx y hy
  rcases List.mem_cons.mp hy with ey | q
  ·rw [ey]; exact qd3 O sa hi x (by rw [e]; exact List.mem_append_left _ hx)
  ·exact fa x (List.mem_append_left _ hx) y q
 ·intro x hx y hy
  rcases List.mem_cons.mp hy with ey | q
  ·rw [ey]; exact hb x hx
  ·exact h.fb x hx y q
theorem Mh.takeB (O:Ord c)(h:Mh c la lb lo na (nb + 1))(sb:Asc c lb)(hi:nb < lb.length)(ha:∀ y∈la.take na,c lb[nb] y=false):Mh c la lb (lb[nb] :: lo) na nb:=by
 have e:=qbq hi
 have p:=h.perm
 have fb:=h.fb
 rw [e] at p fb
 refine ⟨?_,?_,?_,?_⟩
 ·refine List.Perm.trans ?_ p
  simp only [List.append_assoc,List.cons_append,List.nil_append]
  exact List.Perm.refl _
 ·exact List.pairwise_cons.mpr ⟨fun y hy=>fb _ (List.mem_append_right _ List.mem_cons_self) y hy,h.srt⟩
 ·intro x hx y hy
  rcases List.mem_cons.mp hy with ey | q
  ·rw [ey]; exact ha x hx
  ·exact h.fa x hx y q
 ·intro x hx y hy
  rcases List.mem_cons.mp hy with ey | q
  ·rw [ey]; exact qd3 O sb hi x (by rw [e]; exact List.mem_append_left _ hx)
  ·exact fb x (List.mem_append_left _ hx) y q
theorem Mh.takeAs (O:Ord c)(sa:Asc c la)(sb:Asc c lb)(hb1:0 < nb)(hb:nb≤lb.length):∀ (k na:Nat) {lo:List Nat},Mh c la lb lo na nb->k≤na->na≤la.length->(∀ p,na - k≤p->p < na->∀ q:p < la.length,c lb[nb - 1] la[p]=true)->Mh c la lb ((la.take na).drop (na - k) ++ lo) (na - k) nb
 | 0,na,lo,h,_,hn,_=>by
  rw [Nat.sub_zero,List.drop_of_length_le (by rw [List.length_take]; omega)]
  exact h
 | k + 1,na,lo,h,hk,hn,hc=>by
  obtain ⟨n,rfl⟩:∃ n,na=n + 1:=⟨na - 1,by omega⟩
  have hq:n < la.length:=by omega
  have h2:=h.takeA O sa hq fun y hy=>by
   obtain ⟨j,hj,rfl⟩:=List.mem_iff_getElem.mp hy
   rw [List.length_take] at hj
   rw [List.getElem_take]
   exact O.tr _ _ _ (qb1 O sb (i:=j) (j:=nb - 1) (by omega) (by omega)) (O.asym _ _ (hc n (by omega) (by omega) hq))
  have:=Mh.takeAs O sa sb hb1 hb k n h2 (by omega) (by omega) fun p h1 h3 q=>hc p (by omega) (by omega) q
  have e:(la.take (n + 1)).drop (n + 1 - (k + 1))=(la.take n).drop (n - k) ++ [la[n]]:=by
   rw [qbq hq,show n + 1 - (k + 1)=n - k by omega,List.drop_append_of_le_length (by rw [List.length_take]; omega)]
  rw [e,List.append_assoc,show n + 1 - (k + 1)=n - k by omega]
  exact this
theorem Mh.takeBs (O:Ord c)(sa:Asc c la)(sb:Asc c lb)(ha1:0 < na)(ha:na≤la.length):∀ (k nb:Nat) {lo:List Nat},Mh c la lb lo na nb->k≤nb->nb≤lb.length->(∀ p,nb - k≤p->p < nb->∀ q:p < lb.length,c lb[p] la[na - 1]=false)->Mh c la lb ((lb.take nb).drop (nb - k) ++ lo) na (nb - k)
 | 0,nb,lo,h,_,hn,_=>by
  rw [Nat.sub_zero,List.drop_of_length_le (by rw [List.length_take]; omega)]
  exact h
 | k + 1,nb,lo,h,hk,hn,hc=>by
  obtain ⟨n,rfl⟩:∃ n,nb=n + 1:=⟨nb - 1,by omega⟩
  have hq:n < lb.length:=by omega
  have h2:=h.takeB O sb hq fun y hy=>by
   obtain ⟨j,hj,rfl⟩:=List.mem_iff_getElem.mp hy
   rw [List.length_take] at hj
   rw [List.getElem_take]
   exact O.tr _ _ _ (qb1 O sa (i:=j) (j:=na - 1) (by omega) (by omega)) (hc n (by omega) (by omega) hq)
  have:=Mh.takeBs O sa sb ha1 ha k n h2 (by omega) (by omega) fun p h1 h3 q=>hc p (by omega) (by omega) q
  have e:(lb.take (n + 1)).drop (n + 1 - (k + 1))=(lb.take n).drop (n - k) ++ [lb[n]]:=by
   rw [qbq hq,show n + 1 - (k + 1)=n - k by omega,List.drop_append_of_le_length (by rw [List.length_take]; omega)]
  rw [e,List.append_assoc,show n + 1 - (k + 1)=n - k by omega]
  exact this
theorem Mh.endA (h:Mh c la lb lo 0 nb)(sb:Asc c lb):(lb.take nb ++ lo).Perm (la ++ lb)/\Asc c (lb.take nb ++ lo):=by
 have p:=h.perm
 rw [List.take_zero,List.nil_append] at p
 exact ⟨p,List.pairwise_append.mpr ⟨sb.sublist (List.take_sublist _ _),h.srt,fun x hx y hy=>h.fb x hx y hy⟩⟩
theorem Mh.endB (h:Mh c la lb lo na 0)(sa:Asc c la):(la.take na ++ lo).Perm (la ++ lb)/\Asc c (la.take na ++ lo):=by
 have p:=h.perm
 rw [List.take_zero,List.append_nil] at p
 exact ⟨p,List.pairwise_append.mpr ⟨sa.sublist (List.take_sublist _ _),h.srt,fun x hx y hy=>h.fa x hx y hy⟩⟩
theorem Mh.first (h:Mh c la lb lo na 1)(sa:Asc c la)(b1:0 < lb.length)(hl:∀ y∈la,c y lb[0]=false):(lb.take 1 ++ la.take na ++ lo).Perm (la ++ lb)/\Asc c (lb.take 1 ++ la.take na ++ lo):=by
 have e:lb.take 1=[lb[0]]:=by rw [qbq b1]; rfl
 refine ⟨List.Perm.trans (List.Perm.append_right _ List.perm_append_comm) h.perm,?_⟩
 refine List.pairwise_append.mpr ⟨List.pairwise_append.mpr ⟨by rw [e]; exact List.pairwise_singleton _ _,sa.sublist (List.take_sublist _ _),fun x hx y hy=>?_⟩,h.srt,fun x hx y hy=>?_⟩
 ·rw [e] at hx
  rw [List.mem_singleton.mp hx]
  exact hl y (List.mem_of_mem_take hy)
 ·rcases List.mem_append.mp hx with q | q
  ·exact h.fb x q y hy
  ·exact h.fa x q y hy
theorem Mh.size (h:Mh c la lb lo na nb)(ha:na≤la.length)(hb:nb≤lb.length):na + nb + lo.length=la.length + lb.length:=by
 have:=h.perm.length_eq
 simp only [List.length_append,List.length_take] at this
 omega
end
section
variable {prog:Program}{w:World}{A:Around}{E:Value->Shared->Prop}{s:Shared}
theorem qgu (kv:Nat->Keyed)(l:List Nat):(kvs kv l).reverse=kvs kv l.reverse:=by simp
theorem qci (kv:Nat->Keyed)(l:List Nat)(i n:Nat):(kvs kv l).extract i n=kvs kv ((l.take n).drop i):=by
 apply Array.toList_inj.mp
 simp only [Array.toList_extract,List.extract_eq_take_drop]
 rw [<- List.map_drop,<- List.map_take]
 congr 1
 rw [List.drop_take]
theorem qcu (kv:Nat->Keyed)(l:List Nat)(n:Nat):(kvs kv l).extract 0 n=kvs kv (l.take n):=by rw [qci,List.drop_zero]
structure Jh (c:Nat->Nat->Bool)(la lb lo:List Nat)(na nb:Nat):Prop where
 mh:Mh c la lb lo na nb
 a0:0 < na
 a1:na≤la.length
 b0:1 < nb
 b1:nb≤lb.length
theorem qfi {c:Nat->Nat->Bool}(O:Ord c){kv:Nat->Keyed}{la lb:List Nat}{st:SortSt}{Q:Array Keyed->SortSt->Prop}(sa:Asc c la)(sb:Asc c lb)(a1:1≤la.length)(b1:1≤lb.length)
  (gt:∀ x∈la,∀ y∈lb,∀ (g:Nat) (Q:Option Bool->SortSt->Prop),Q (some (c y x)) (qaw st g)->wpS (model prog w) A E s (lt' (kv y) (kv x)) Q (qaw st g))
  (hl:∀ y∈lb,c la[la.length - 1] y=false) (hf:∀ y∈la,c y lb[0]=false)
  (h:∀ (r:Array Keyed) (g:Nat),Fin' c kv la lb r->Q r (qaw st g)):wpS (model prog w) A E s (qj9 (kvs kv la) (kvs kv lb)) Q st:=by
 have m1:Mh c la lb [la[la.length - 1]] (la.length - 1) lb.length:=by
  have m0:Mh c la lb [] (la.length - 1 + 1) lb.length:=⟨by rw [List.take_of_length_le (by omega),List.take_of_length_le (by omega)]; simp,.nil,fun x hx y hy=>by simp at hy,fun x hx y hy=>by simp at hy⟩
  exact m0.takeA O sa (by omega) fun y hy=>hl y (List.mem_of_mem_take hy)
 have firstB:∀ {lo:List Nat} {na nb:Nat},Mh c la lb lo na nb->nb=1->Fin' c kv la lb ((kvs kv lb).extract 0 nb ++ (kvs kv la).extract 0 na ++ (kvs kv lo.reverse).reverse):=by
  intro lo na nb m e
  subst e
  obtain ⟨p,q⟩:=m.first sa b1 hf
  exact ⟨_,by rw [qcu,qcu,qgu,List.reverse_reverse,qa1,qa1],p,q⟩
 have endA:∀ {lo:List Nat} {na nb:Nat},Mh c la lb lo na nb->na=0->Fin' c kv la lb ((kvs kv la).extract 0 na ++ (kvs kv lb).extract 0 nb ++ (kvs kv lo.reverse).reverse):=by
  intro lo na nb m e
  subst e
  obtain ⟨p,q⟩:=m.endA sb
  refine ⟨_,?_,p,q⟩
  rw [qcu,qcu,qgu,List.reverse_reverse,qa1,qa1,List.take_zero,List.nil_append]
 have endB:∀ {lo:List Nat} {na nb:Nat},Mh c la lb lo na nb->nb=0->Fin' c kv la lb ((kvs kv la).extract 0 na ++ (kvs kv lb).extract 0 nb ++ (kvs kv lo.reverse).reverse):=by
  intro lo na nb m e
  subst e
  obtain ⟨p,q⟩:=m.endB sa
  refine ⟨_,?_,p,q⟩
  rw [qcu,qcu,qgu,List.reverse_reverse,qa1,qa1,List.take_zero,List.append_nil]
 have push1:∀ (lo:List Nat) (x:Nat),(kvs kv lo.reverse).push (kv x)=kvs kv (x :: lo).reverse:=fun lo x=>by rw [qaT,List.reverse_cons]
 have app1:∀ (lo l:List Nat),kvs kv lo.reverse ++ (kvs kv l).reverse=kvs kv (l ++ lo).reverse:=fun lo l=>by rw [qgu,qa1,List.reverse_append]
 refine wpS_bind (wpS_lift (wpAny_rule ⟨rfl,?_⟩))
 refine wpS_bind (qac (x:=kv la[la.length - 1]) (by rw [qam]; exact qaq (by omega)) ?_)
 have e0:(#[kv la[la.length - 1]]:Array Keyed)=kvs kv [la[la.length - 1]].reverse:=rfl
 dsimp only
 rw [e0]
 simp only [qam]
 by_cases c1:la.length - 1=0
 ·rw [if_pos (by simpa using c1)]
  exact wpS_pure (h _ (gallopOf st) (endA m1 c1))
 rw [if_neg (by simpa using c1)]
 by_cases c2:lb.length=1
 ·rw [if_pos (by simpa using c2)]
  exact wpS_pure (h _ (gallopOf st) (firstB m1 c2))
 rw [if_neg (by simpa using c2)]
 refine wpS_bind (wpS_get ?_)
 have j1:Jh c la lb [la[la.length - 1]] (la.length - 1) lb.length:=⟨m1,by omega,by omega,by omega,by omega⟩
 refine wpS_bind (wpS_mono (wpS_forRange (I:=fun x z st'=>(∃ g,st'=qaw st g)/\∃ lo na nb mg,z=(none,na,nb,kvs kv lo.reverse,mg)/\Jh c la lb lo na nb/\1 + x≤lo.length)
  (Q:=fun z st'=>(∃ g,st'=qaw st g)/\∃ r t,z=(some r,t)/\Fin' c kv la lb r) ?_ ?_ ⟨⟨gallopOf st,rfl⟩,_,_,_,_,rfl,j1,by simp⟩) ?_)
 ·rintro x z st' _ hx ⟨⟨g,rfl⟩,lo,na,nb,mg,rfl,j,hlen⟩
  dsimp only
  refine wpS_bind (wpS_mono (wpS_forRange (I:=fun x z st'=>st'=qaw st g/\∃ lo' na nb ac bc,z=(none,na,nb,kvs kv lo'.reverse,ac,bc)/\Jh c la lb lo' na nb/\lo.length + x≤lo'.length)
   (Q:=fun z st'=>st'=qaw st g/\((∃ r t,z=(some r,t)/\Fin' c kv la lb r)\/∃ lo' na nb ac bc,z=(none,na,nb,kvs kv lo'.reverse,ac,bc)/\Jh c la lb lo' na nb/\lo.length + 1≤lo'.length)) ?_ ?_ ⟨rfl,_,_,_,_,_,rfl,j,by simp⟩) ?_)
  ·rintro x z st' _ hx ⟨rfl,lo',na,nb,ac,bc,rfl,j,hlen'⟩
   have a0:=j.a0
   have a1':=j.a1
   have b0:=j.b0
   have b1':=j.b1
   obtain ⟨n,rfl⟩:∃ n,na=n + 1:=⟨na - 1,by omega⟩
   obtain ⟨m,rfl⟩:∃ m,nb=m + 1:=⟨nb - 1,by omega⟩
   have hn:n < la.length:=by omega
   have hm:m < lb.length:=by omega
   dsimp only
   simp only [Nat.add_sub_cancel]
   refine wpS_bind (qac (qaq hm) (wpS_bind (qac (qaq hn) ?_)))
   refine wpS_bind (gt _ (List.getElem_mem _) _ (List.getElem_mem _) g _ ?_)
   dsimp only
   cases hw:c lb[m] la[n] with
   | true =>
    simp only [if_true]
    have m2:=j.mh.takeA O sa hn fun y hy=>O.tr _ _ _ (qd3 O sb hm y hy) (O.asym _ _ hw)
    refine wpS_bind (qac (qaq hn) ?_)
    rw [push1]
    by_cases e:n=0
    ·rw [if_pos (by simpa using e)]
     exact wpS_pure ⟨rfl,.inl ⟨_,_,rfl,endA m2 e⟩⟩
    ·rw [if_neg (by simpa using e)]
     have j2:Jh c la lb (la[n] :: lo') n (m + 1):=⟨m2,by omega,by omega,b0,b1'⟩
     split
     ·exact wpS_pure ⟨rfl,.inr ⟨_,_,_,_,_,rfl,j2,by simp; omega⟩⟩
     ·exact wpS_pure ⟨rfl,_,_,_,_,_,rfl,j2,by simp; omega⟩
   | false =>
    simp only [Bool.false_eq_true,if_false]
    have m2:=j.mh.takeB O sb hm fun y hy=>O.tr _ _ _ (qd3 O sa hn y hy) hw
    refine wpS_bind (qac (qaq hm) ?_)
    rw [push1]
    by_cases e:m=1
    ·rw [if_pos (by simpa using e)]
     exact wpS_pure ⟨rfl,.inl ⟨_,_,rfl,firstB m2 e⟩⟩
    ·rw [if_neg (by simpa using e)]
     have j2:Jh c la lb (lb[m] :: lo') (n + 1) m:=⟨m2,a0,a1',by omega,by omega⟩
     split
     ·exact wpS_pure ⟨rfl,.inr ⟨_,_,_,_,_,rfl,j2,by simp; omega⟩⟩
     ·exact wpS_pure ⟨rfl,_,_,_,_,_,rfl,j2,by simp; omega⟩
  ·rintro z st' ⟨rfl,lo',na,nb,ac,bc,rfl,j,hlen'⟩
   have:=j.mh.size j.a1 j.b1
   have:=j.a0
   have:=j.b0
   simp at hlen'
   omega
  ·rintro z st' ⟨rfl,⟨r,t,rfl,hr⟩ | ⟨lo',na,nb,ac,bc,rfl,j,hlen'⟩⟩
   ·exact wpS_pure ⟨⟨g,rfl⟩,_,_,rfl,hr⟩
   dsimp only
   refine wpS_bind (wpS_lift (wpAny_rule ⟨rfl,?_⟩))
   refine wpS_bind (wpS_mono (wpS_forRange (I:=fun x z st'=>(∃ g,st'=qaw st g)/\∃ lo'' na nb mg ac bc,z=(none,na,nb,kvs kv lo''.reverse,mg,ac,bc)/\Jh c la lb lo'' na nb/\lo'.length + x≤lo''.length)
    (Q:=fun z st'=>(∃ g,st'=qaw st g)/\((∃ r t,z=(some r,t)/\Fin' c kv la lb r)\/∃ lo'' na nb mg ac bc,z=(none,na,nb,kvs kv lo''.reverse,mg,ac,bc)/\Jh c la lb lo'' na nb/\lo'.length≤lo''.length)) ?_ ?_ ⟨⟨g,rfl⟩,_,_,_,_,_,_,rfl,j,by simp⟩) ?_)
   ·rintro x z st' _ hx ⟨⟨g',rfl⟩,lo2,na,nb,mg,ac,bc,rfl,j,hlen2⟩
    have a0:=j.a0
    have a1':=j.a1
    have b0:=j.b0
    have b1':=j.b1
    obtain ⟨m,rfl⟩:∃ m,nb=m + 1:=⟨nb - 1,by omega⟩
    have hm:m < lb.length:=by omega
    dsimp only
    simp only [Nat.add_sub_cancel]
    by_cases gg:mg > 1
    ·rw [if_pos gg]
     refine wpS_bind (wpS_modify ?_)
     refine wpS_bind (qac (qaq hm) ?_)
     refine wpS_bind (qav (st:=qaw st (mg - 1)) (fun i=>!(c lb[m] (la.getD i 0))) (fun i j' hij hj q=>?_) (by omega) (fun i hi=>⟨kv (la.getD i 0),?_,fun Q' z _=>absurd z (by decide),fun Q' _ hQ=>gt _ (getD_mem (by omega)) _ (List.getElem_mem _) _ _ (by simpa using hQ)⟩) fun k hk hT hF=>?_)
     ·rw [qaa (show i < la.length by omega)]
      rw [qaa (show j' < la.length by omega)] at q
      have q':c lb[m] la[j']=false:=by simpa using q
      simpa using qfd O sa (by omega) (by omega) (by omega) q'
     ·rw [Nat.zero_add,qaq (show i < la.length by omega),qaa (show i < la.length by omega)]
     dsimp only
     have hlow:∀ y∈la.take k,c lb[m] y=false:=fun y hy=>by
      obtain ⟨i,hi,rfl⟩:=List.mem_iff_getElem.mp hy
      rw [List.length_take] at hi
      rw [List.getElem_take]
      have:=hT i (by omega)
      rw [qaa (show i < la.length by omega)] at this
      simpa using this
     have hhi:∀ p,k≤p->p < na->∀ q:p < la.length,c lb[m] la[p]=true:=fun p hp hp2 q=>by
      have:=hF p hp hp2
      rw [qaa q] at this
      simpa using this
     by_cases k0:na - k > 0
     ·have m2:=Mh.takeAs O sa sb (nb:=m + 1) (by omega) (by omega) (na - k) na j.mh (by omega) (by omega) fun p h1 h2 q=>hhi p (by omega) h2 q
      rw [show na - (na - k)=k by omega] at m2
      rw [if_pos k0,qci kv la k na,app1]
      by_cases e1:k=0
      ·rw [if_pos (by simpa using e1)]
       exact wpS_pure ⟨⟨_,rfl⟩,.inl ⟨_,_,rfl,endA m2 e1⟩⟩
      rw [if_neg (by simpa using e1)]
      obtain ⟨n3,rfl⟩:∃ n3,k=n3 + 1:=⟨k - 1,by omega⟩
      have hna:n3 < la.length:=by omega
      have m3:=m2.takeB O sb hm hlow
      refine wpS_bind (qac (qaq hm) ?_)
      rw [push1]
      by_cases e3:m=1
      ·rw [if_pos (by simpa using e3)]
       exact wpS_pure ⟨⟨_,rfl⟩,.inl ⟨_,_,rfl,firstB m3 e3⟩⟩
      rw [if_neg (by simpa using e3)]
      simp only [Nat.add_sub_cancel]
      refine wpS_bind (qac (qaq hna) ?_)
      refine wpS_bind (qav (st:=qaw st (mg - 1)) (fun i=>c (lb.getD i 0) la[n3]) (fun i j' hij hj q=>?_) (by omega) (fun i hi=>⟨kv (lb.getD i 0),?_,fun Q' _ hQ=>gt _ (List.getElem_mem _) _ (getD_mem (by omega)) _ _ hQ,fun Q' z _=>absurd z (by decide)⟩) fun k2 hk2 hT2 hF2=>?_)
      ·rw [qaa (show i < lb.length by omega)]
       rw [qaa (show j' < lb.length by omega)] at q
       exact qcp O sb (by omega) (by omega) (by omega) q
      ·rw [Nat.zero_add,qaq (show i < lb.length by omega),qaa (show i < lb.length by omega)]
      dsimp only
      have low2:∀ p,p < k2->∀ q:p < lb.length,c lb[p] la[n3]=true:=fun p hp q=>by
       have:=hT2 p hp
       rwa [qaa q] at this
      have hi2:∀ p,k2≤p->p < m->∀ q:p < lb.length,c lb[p] la[n3]=false:=fun p hp hp2 q=>by
       have:=hF2 p hp hp2
       rwa [qaa q] at this
      have low3:∀ y∈lb.take k2,c la[n3] y=false:=fun y hy=>by
       obtain ⟨i,hi,rfl⟩:=List.mem_iff_getElem.mp hy
       rw [List.length_take] at hi
       rw [List.getElem_take]
       exact O.asym _ _ (low2 i (by omega) (by omega))
      by_cases k20:m - k2 > 0
      ·have m4:=Mh.takeBs O sa sb (na:=n3 + 1) (by omega) (by omega) (m - k2) m m3 (by omega) (by omega) fun p h1 h2 q=>hi2 p (by omega) h2 q
       rw [show m - (m - k2)=k2 by omega] at m4
       rw [if_pos k20,qci kv lb k2 m,app1]
       by_cases e4:k2=1
       ·rw [if_pos (by simpa using e4)]
        exact wpS_pure ⟨⟨_,rfl⟩,.inl ⟨_,_,rfl,firstB m4 e4⟩⟩
       rw [if_neg (by simpa using e4)]
       by_cases e6:k2=0
       ·rw [if_pos (by simpa using e6)]
        exact wpS_pure ⟨⟨_,rfl⟩,.inl ⟨_,_,rfl,endB m4 e6⟩⟩
       rw [if_neg (by simpa using e6)]
       have m5:=m4.takeA O sa hna low3
       refine wpS_bind (qac (qaq hna) ?_)
       rw [push1]
       by_cases e5:n3=0
       ·rw [if_pos (by simpa using e5)]
        exact wpS_pure ⟨⟨_,rfl⟩,.inl ⟨_,_,rfl,endA m5 e5⟩⟩
       rw [if_neg (by simpa using e5)]
       split
       ·exact wpS_pure ⟨⟨_,rfl⟩,.inr ⟨_,_,_,_,_,_,rfl,⟨m5,by omega,by omega,by omega,by omega⟩,by simp; omega⟩⟩
       ·exact wpS_pure ⟨⟨_,rfl⟩,_,_,_,_,_,_,rfl,⟨m5,by omega,by omega,by omega,by omega⟩,by simp; omega⟩
      ·rw [if_neg k20]
       obtain rfl:m=k2:=by omega
       have m5:=m3.takeA O sa hna low3
       refine wpS_bind (qac (qaq hna) ?_)
       rw [push1]
       by_cases e5:n3=0
       ·rw [if_pos (by simpa using e5)]
        exact wpS_pure ⟨⟨_,rfl⟩,.inl ⟨_,_,rfl,endA m5 e5⟩⟩
       rw [if_neg (by simpa using e5)]
       split
       ·exact wpS_pure ⟨⟨_,rfl⟩,.inr ⟨_,_,_,_,_,_,rfl,⟨m5,by omega,by omega,by omega,by omega⟩,by simp; omega⟩⟩
       ·exact wpS_pure ⟨⟨_,rfl⟩,_,_,_,_,_,_,rfl,⟨m5,by omega,by omega,by omega,by omega⟩,by simp; omega⟩
     ·rw [if_neg k0]
      obtain rfl:na=k:=by omega
      have m2:=j.mh
      obtain ⟨n3,rfl⟩:∃ n3,na=n3 + 1:=⟨na - 1,by omega⟩
      have hna:n3 < la.length:=by omega
      have m3:=m2.takeB O sb hm hlow
      refine wpS_bind (qac (qaq hm) ?_)
      rw [push1]
      by_cases e3:m=1
      ·rw [if_pos (by simpa using e3)]
       exact wpS_pure ⟨⟨_,rfl⟩,.inl ⟨_,_,rfl,firstB m3 e3⟩⟩
      rw [if_neg (by simpa using e3)]
      simp only [Nat.add_sub_cancel]
      refine wpS_bind (qac (qaq hna) ?_)
      refine wpS_bind (qav (st:=qaw st (mg - 1)) (fun i=>c (lb.getD i 0) la[n3]) (fun i j' hij hj q=>?_) (by omega) (fun i hi=>⟨kv (lb.getD i 0),?_,fun Q' _ hQ=>gt _ (List.getElem_mem _) _ (getD_mem (by omega)) _ _ hQ,fun Q' z _=>absurd z (by decide)⟩) fun k2 hk2 hT2 hF2=>?_)
      ·rw [qaa (show i < lb.length by omega)]
       rw [qaa (show j' < lb.length by omega)] at q
       exact qcp O sb (by omega) (by omega) (by omega) q
      ·rw [Nat.zero_add,qaq (show i < lb.length by omega),qaa (show i < lb.length by omega)]
      dsimp only
      have low2:∀ p,p < k2->∀ q:p < lb.length,c lb[p] la[n3]=true:=fun p hp q=>by
       have:=hT2 p hp
       rwa [qaa q] at this
      have hi2:∀ p,k2≤p->p < m->∀ q:p < lb.length,c lb[p] la[n3]=false:=fun p hp hp2 q=>by
       have:=hF2 p hp hp2
       rwa [qaa q] at this
      have low3:∀ y∈lb.take k2,c la[n3] y=false:=fun y hy=>by
       obtain ⟨i,hi,rfl⟩:=List.mem_iff_getElem.mp hy
       rw [List.length_take] at hi
       rw [List.getElem_take]
       exact O.asym _ _ (low2 i (by omega) (by omega))
      by_cases k20:m - k2 > 0
      ·have m4:=Mh.takeBs O sa sb (na:=n3 + 1) (by omega) (by omega) (m - k2) m m3 (by omega) (by omega) fun p h1 h2 q=>hi2 p (by omega) h2 q
       rw [show m - (m - k2)=k2 by omega] at m4
       rw [if_pos k20,qci kv lb k2 m,app1]
       by_cases e4:k2=1
       ·rw [if_pos (by simpa using e4)]
        exact wpS_pure ⟨⟨_,rfl⟩,.inl ⟨_,_,rfl,firstB m4 e4⟩⟩
       rw [if_neg (by simpa using e4)]
       by_cases e6:k2=0
       ·rw [if_pos (by simpa using e6)]
        exact wpS_pure ⟨⟨_,rfl⟩,.inl ⟨_,_,rfl,endB m4 e6⟩⟩
       rw [if_neg (by simpa using e6)]
       have m5:=m4.takeA O sa hna low3
       refine wpS_bind (qac (qaq hna) ?_)
       rw [push1]
       by_cases e5:n3=0
       ·rw [if_pos (by simpa using e5)]
        exact wpS_pure ⟨⟨_,rfl⟩,.inl ⟨_,_,rfl,endA m5 e5⟩⟩
       rw [if_neg (by simpa using e5)]
       split
       ·exact wpS_pure ⟨⟨_,rfl⟩,.inr ⟨_,_,_,_,_,_,rfl,⟨m5,by omega,by omega,by omega,by omega⟩,by simp; omega⟩⟩
       ·exact wpS_pure ⟨⟨_,rfl⟩,_,_,_,_,_,_,rfl,⟨m5,by omega,by omega,by omega,by omega⟩,by simp; omega⟩
      ·rw [if_neg k20]
       obtain rfl:m=k2:=by omega
       have m5:=m3.takeA O sa hna low3
       refine wpS_bind (qac (qaq hna) ?_)
       rw [push1]
       by_cases e5:n3=0
       ·rw [if_pos (by simpa using e5)]
        exact wpS_pure ⟨⟨_,rfl⟩,.inl ⟨_,_,rfl,endA m5 e5⟩⟩
       rw [if_neg (by simpa using e5)]
       split
       ·exact wpS_pure ⟨⟨_,rfl⟩,.inr ⟨_,_,_,_,_,_,rfl,⟨m5,by omega,by omega,by omega,by omega⟩,by simp; omega⟩⟩
       ·exact wpS_pure ⟨⟨_,rfl⟩,_,_,_,_,_,_,rfl,⟨m5,by omega,by omega,by omega,by omega⟩,by simp; omega⟩
    ·rw [if_neg gg]
     refine wpS_bind (wpS_modify ?_)
     refine wpS_bind (qac (qaq hm) ?_)
     refine wpS_bind (qav (st:=qaw st (mg)) (fun i=>!(c lb[m] (la.getD i 0))) (fun i j' hij hj q=>?_) (by omega) (fun i hi=>⟨kv (la.getD i 0),?_,fun Q' z _=>absurd z (by decide),fun Q' _ hQ=>gt _ (getD_mem (by omega)) _ (List.getElem_mem _) _ _ (by simpa using hQ)⟩) fun k hk hT hF=>?_)
     ·rw [qaa (show i < la.length by omega)]
      rw [qaa (show j' < la.length by omega)] at q
      have q':c lb[m] la[j']=false:=by simpa using q
      simpa using qfd O sa (by omega) (by omega) (by omega) q'
     ·rw [Nat.zero_add,qaq (show i < la.length by omega),qaa (show i < la.length by omega)]
     dsimp only
     have hlow:∀ y∈la.take k,c lb[m] y=false:=fun y hy=>by
      obtain ⟨i,hi,rfl⟩:=List.mem_iff_getElem.mp hy
      rw [List.length_take] at hi
      rw [List.getElem_take]
      have:=hT i (by omega)
      rw [qaa (show i < la.length by omega)] at this
      simpa using this
     have hhi:∀ p,k≤p->p < na->∀ q:p < la.length,c lb[m] la[p]=true:=fun p hp hp2 q=>by
      have:=hF p hp hp2
      rw [qaa q] at this
      simpa using this
     by_cases k0:na - k > 0
     ·have m2:=Mh.takeAs O sa sb (nb:=m + 1) (by omega) (by omega) (na - k) na j.mh (by omega) (by omega) fun p h1 h2 q=>hhi p (by omega) h2 q
      rw [show na - (na - k)=k by omega] at m2
      rw [if_pos k0,qci kv la k na,app1]
      by_cases e1:k=0
      ·rw [if_pos (by simpa using e1)]
       exact wpS_pure ⟨⟨_,rfl⟩,.inl ⟨_,_,rfl,endA m2 e1⟩⟩
      rw [if_neg (by simpa using e1)]
      obtain ⟨n3,rfl⟩:∃ n3,k=n3 + 1:=⟨k - 1,by omega⟩
      have hna:n3 < la.length:=by omega
      have m3:=m2.takeB O sb hm hlow
      refine wpS_bind (qac (qaq hm) ?_)
      rw [push1]
      by_cases e3:m=1
      ·rw [if_pos (by simpa using e3)]
       exact wpS_pure ⟨⟨_,rfl⟩,.inl ⟨_,_,rfl,firstB m3 e3⟩⟩
      rw [if_neg (by simpa using e3)]
      simp only [Nat.add_sub_cancel]
      refine wpS_bind (qac (qaq hna) ?_)
      refine wpS_bind (qav (st:=qaw st (mg)) (fun i=>c (lb.getD i 0) la[n3]) (fun i j' hij hj q=>?_) (by omega) (fun i hi=>⟨kv (lb.getD i 0),?_,fun Q' _ hQ=>gt _ (List.getElem_mem _) _ (getD_mem (by omega)) _ _ hQ,fun Q' z _=>absurd z (by decide)⟩) fun k2 hk2 hT2 hF2=>?_)
      ·rw [qaa (show i < lb.length by omega)]
       rw [qaa (show j' < lb.length by omega)] at q
       exact qcp O sb (by omega) (by omega) (by omega) q
      ·rw [Nat.zero_add,qaq (show i < lb.length by omega),qaa (show i < lb.length by omega)]
      dsimp only
      have low2:∀ p,p < k2->∀ q:p < lb.length,c lb[p] la[n3]=true:=fun p hp q=>by
       have:=hT2 p hp
       rwa [qaa q] at this
      have hi2:∀ p,k2≤p->p < m->∀ q:p < lb.length,c lb[p] la[n3]=false:=fun p hp hp2 q=>by
       have:=hF2 p hp hp2
       rwa [qaa q] at this
      have low3:∀ y∈lb.take k2,c la[n3] y=false:=fun y hy=>by
       obtain ⟨i,hi,rfl⟩:=List.mem_iff_getElem.mp hy
       rw [List.length_take] at hi
       rw [List.getElem_take]
       exact O.asym _ _ (low2 i (by omega) (by omega))
      by_cases k20:m - k2 > 0
      ·have m4:=Mh.takeBs O sa sb (na:=n3 + 1) (by omega) (by omega) (m - k2) m m3 (by omega) (by omega) fun p h1 h2 q=>hi2 p (by omega) h2 q
       rw [show m - (m - k2)=k2 by omega] at m4
       rw [if_pos k20,qci kv lb k2 m,app1]
       by_cases e4:k2=1
       ·rw [if_pos (by simpa using e4)]
        exact wpS_pure ⟨⟨_,rfl⟩,.inl ⟨_,_,rfl,firstB m4 e4⟩⟩
       rw [if_neg (by simpa using e4)]
       by_cases e6:k2=0
       ·rw [if_pos (by simpa using e6)]
        exact wpS_pure ⟨⟨_,rfl⟩,.inl ⟨_,_,rfl,endB m4 e6⟩⟩
       rw [if_neg (by simpa using e6)]
       have m5:=m4.takeA O sa hna low3
       refine wpS_bind (qac (qaq hna) ?_)
       rw [push1]
       by_cases e5:n3=0
       ·rw [if_pos (by simpa using e5)]
        exact wpS_pure ⟨⟨_,rfl⟩,.inl ⟨_,_,rfl,endA m5 e5⟩⟩
       rw [if_neg (by simpa using e5)]
       split
       ·exact wpS_pure ⟨⟨_,rfl⟩,.inr ⟨_,_,_,_,_,_,rfl,⟨m5,by omega,by omega,by omega,by omega⟩,by simp; omega⟩⟩
       ·exact wpS_pure ⟨⟨_,rfl⟩,_,_,_,_,_,_,rfl,⟨m5,by omega,by omega,by omega,by omega⟩,by simp; omega⟩
      ·rw [if_neg k20]
       obtain rfl:m=k2:=by omega
       have m5:=m3.takeA O sa hna low3
       refine wpS_bind (qac (qaq hna) ?_)
       rw [push1]
       by_cases e5:n3=0
       ·rw [if_pos (by simpa using e5)]
        exact wpS_pure ⟨⟨_,rfl⟩,.inl ⟨_,_,rfl,endA m5 e5⟩⟩
       rw [if_neg (by simpa using e5)]
       split
       ·exact wpS_pure ⟨⟨_,rfl⟩,.inr ⟨_,_,_,_,_,_,rfl,⟨m5,by omega,by omega,by omega,by omega⟩,by simp; omega⟩⟩
       ·exact wpS_pure ⟨⟨_,rfl⟩,_,_,_,_,_,_,rfl,⟨m5,by omega,by omega,by omega,by omega⟩,by simp; omega⟩
     ·rw [if_neg k0]
      obtain rfl:na=k:=by omega
      have m2:=j.mh
      obtain ⟨n3,rfl⟩:∃ n3,na=n3 + 1:=⟨na - 1,by omega⟩
      have hna:n3 < la.length:=by omega
      have m3:=m2.takeB O sb hm hlow
      refine wpS_bind (qac (qaq hm) ?_)
      rw [push1]
      by_cases e3:m=1
      ·rw [if_pos (by simpa using e3)]
       exact wpS_pure ⟨⟨_,rfl⟩,.inl ⟨_,_,rfl,firstB m3 e3⟩⟩
      rw [if_neg (by simpa using e3)]
      simp only [Nat.add_sub_cancel]
      refine wpS_bind (qac (qaq hna) ?_)
      refine wpS_bind (qav (st:=qaw st (mg)) (fun i=>c (lb.getD i 0) la[n3]) (fun i j' hij hj q=>?_) (by omega) (fun i hi=>⟨kv (lb.getD i 0),?_,fun Q' _ hQ=>gt _ (List.getElem_mem _) _ (getD_mem (by omega)) _ _ hQ,fun Q' z _=>absurd z (by decide)⟩) fun k2 hk2 hT2 hF2=>?_)
      ·rw [qaa (show i < lb.length by omega)]
       rw [qaa (show j' < lb.length by omega)] at q
       exact qcp O sb (by omega) (by omega) (by omega) q
      ·rw [Nat.zero_add,qaq (show i < lb.length by omega),qaa (show i < lb.length by omega)]
      dsimp only
      have low2:∀ p,p < k2->∀ q:p < lb.length,c lb[p] la[n3]=true:=fun p hp q=>by
       have:=hT2 p hp
       rwa [qaa q] at this
      have hi2:∀ p,k2≤p->p < m->∀ q:p < lb.length,c lb[p] la[n3]=false:=fun p hp hp2 q=>by
       have:=hF2 p hp hp2
       rwa [qaa q] at this
      have low3:∀ y∈lb.take k2,c la[n3] y=false:=fun y hy=>by
       obtain ⟨i,hi,rfl⟩:=List.mem_iff_getElem.mp hy
       rw [List.length_take] at hi
       rw [List.getElem_take]
       exact O.asym _ _ (low2 i (by omega) (by omega))
      by_cases k20:m - k2 > 0
      ·have m4:=Mh.takeBs O sa sb (na:=n3 + 1) (by omega) (by omega) (m - k2) m m3 (by omega) (by omega) fun p h1 h2 q=>hi2 p (by omega) h2 q
       rw [show m - (m - k2)=k2 by omega] at m4
       rw [if_pos k20,qci kv lb k2 m,app1]
       by_cases e4:k2=1
       ·rw [if_pos (by simpa using e4)]
        exact wpS_pure ⟨⟨_,rfl⟩,.inl ⟨_,_,rfl,firstB m4 e4⟩⟩
       rw [if_neg (by simpa using e4)]
       by_cases e6:k2=0
       ·rw [if_pos (by simpa using e6)]
        exact wpS_pure ⟨⟨_,rfl⟩,.inl ⟨_,_,rfl,endB m4 e6⟩⟩
       rw [if_neg (by simpa using e6)]
       have m5:=m4.takeA O sa hna low3
       refine wpS_bind (qac (qaq hna) ?_)
       rw [push1]
       by_cases e5:n3=0
       ·rw [if_pos (by simpa using e5)]
        exact wpS_pure ⟨⟨_,rfl⟩,.inl ⟨_,_,rfl,endA m5 e5⟩⟩
       rw [if_neg (by simpa using e5)]
       split
       ·exact wpS_pure ⟨⟨_,rfl⟩,.inr ⟨_,_,_,_,_,_,rfl,⟨m5,by omega,by omega,by omega,by omega⟩,by simp; omega⟩⟩
       ·exact wpS_pure ⟨⟨_,rfl⟩,_,_,_,_,_,_,rfl,⟨m5,by omega,by omega,by omega,by omega⟩,by simp; omega⟩
      ·rw [if_neg k20]
       obtain rfl:m=k2:=by omega
       have m5:=m3.takeA O sa hna low3
       refine wpS_bind (qac (qaq hna) ?_)
       rw [push1]
       by_cases e5:n3=0
       ·rw [if_pos (by simpa using e5)]
        exact wpS_pure ⟨⟨_,rfl⟩,.inl ⟨_,_,rfl,endA m5 e5⟩⟩
       rw [if_neg (by simpa using e5)]
       split
       ·exact wpS_pure ⟨⟨_,rfl⟩,.inr ⟨_,_,_,_,_,_,rfl,⟨m5,by omega,by omega,by omega,by omega⟩,by simp; omega⟩⟩
       ·exact wpS_pure ⟨⟨_,rfl⟩,_,_,_,_,_,_,rfl,⟨m5,by omega,by omega,by omega,by omega⟩,by simp; omega⟩
   ·rintro z st' ⟨⟨g',rfl⟩,lo2,na,nb,mg,ac,bc,rfl,j,hlen2⟩
    have:=j.mh.size j.a1 j.b1
    have:=j.a0
    have:=j.b0
    simp at hlen2
    omega
   ·rintro z st' ⟨⟨g',rfl⟩,⟨r,t,rfl,hr⟩ | ⟨lo2,na,nb,mg,ac,bc,rfl,j,hlen2⟩⟩
    ·exact wpS_pure ⟨⟨g',rfl⟩,_,_,rfl,hr⟩
    dsimp only
    refine wpS_bind (wpS_modify ?_)
    exact wpS_pure ⟨⟨_,rfl⟩,_,_,_,_,rfl,j,by omega⟩
 ·rintro z st' ⟨⟨g,rfl⟩,lo,na,nb,mg,rfl,j,hlen⟩
  have:=j.mh.size j.a1 j.b1
  have:=j.a0
  have:=j.b0
  simp at hlen
  omega
 ·rintro z st' ⟨⟨g,rfl⟩,r,t,rfl,hr⟩
  exact wpS_pure (h r g hr)
end
abbrev Rn:=List Nat × Nat
def flat (R:List Rn):List Nat:=(R.map (·.1)).flatten
def pend:Nat->List Rn->List (Nat × Nat × Nat)
 | _,[]=>[]
 | t,(l,w) :: r=>(t,l.length,w) :: pend (t + l.length) r
theorem qa0:∀ (t:Nat) (R S:List Rn),pend t (R ++ S)=pend t R ++ pend (t + (flat R).length) S
 | t,[],S=>by simp [pend,flat]
 | t,(l,w) :: R,S=>by
  show (t,l.length,w) :: pend (t + l.length) (R ++ S)=_
  rw [qa0 (t + l.length) R S]
  show _=(t,l.length,w) :: (pend (t + l.length) R ++ pend (t + (flat ((l,w) :: R)).length) S)
  have:(flat ((l,w) :: R)).length=l.length + (flat R).length:=by simp [flat]
  rw [this,Nat.add_assoc]
theorem qaZ:∀ (t:Nat) (R:List Rn),(pend t R).length=R.length
 | _,[]=>rfl
 | t,(l,w) :: R=>by show (pend (t + l.length) R).length + 1=_; rw [qaZ]; rfl
theorem qgG (kv:Nat->Keyed):∀ (l:List Nat) (pre old post:List Nat) (j:Nat),l.length=old.length->(((l.map kv).zipIdx j).foldl (fun a (x:Keyed × Nat)=>a.setIfInBounds (pre.length + x.2 - j) x.1) (kvs kv (pre ++ old ++ post)))=kvs kv (pre ++ l ++ post)
 | [],pre,old,post,j,h=>by
  have:old=[]:=List.length_eq_zero_iff.mp h.symm
  subst this; rfl
 | x :: l,pre,old,post,j,h=>by
  obtain ⟨o,old',rfl⟩:∃ o old',old=o :: old':=by
   cases old with
   | nil=>simp at h
   | cons o old'=>exact ⟨o,old',rfl⟩
  have ih:=qgG kv l (pre ++ [x]) old' post (j + 1) (by simpa using h)
  rw [List.map_cons,List.zipIdx_cons,List.foldl_cons]
  have e1:(kvs kv (pre ++ o :: old' ++ post)).setIfInBounds (pre.length + j - j) (kv x)=kvs kv (pre ++ [x] ++ old' ++ post):=by
   apply Array.toList_inj.mp
   rw [Nat.add_sub_cancel]
   simp [List.set_append]
  show List.foldl _ ((kvs kv (pre ++ o :: old' ++ post)).setIfInBounds (pre.length + j - j) (kv x)) _=_
  rw [e1]
  rw [show pre ++ x :: l ++ post=pre ++ [x] ++ l ++ post by simp]
  rw [<- ih]
  congr 1
  funext a y
  congr 1
  simp
  omega
section
variable {prog:Program}{w:World}{A:Around}{E:Value->Shared->Prop}{s:Shared}
theorem qla {σ:Type}{M:Model}{x st:σ}{Q:PUnit->σ->Prop}(h:Q ⟨⟩ x):wpS M A E s (set x:StateT σ Sem PUnit) Q st:=by
 unfold wpS; rw [StateT.run_set]; exact wpAny_pure ⟨rfl,h⟩
abbrev SS (κ:SortKind)(a:Array Keyed)(p:Array (Nat × Nat × Nat))(g:Nat):SortSt:=SortSt.mk' κ a p g none
structure Cmp (prog:Program)(w:World)(A:Around)(E:Value->Shared->Prop)(s:Shared)(c:Nat->Nat->Bool)(kv:Nat->Keyed)(κ:SortKind)(n:Nat):Prop where
 O:Ord c
 lt:∀ x y,In n x y->∀ (st:SortSt),kindOf st=κ->∀ Q:Option Bool->SortSt->Prop,Q (some (c x y)) st->wpS (model prog w) A E s (lt' (kv x) (kv y)) Q st
theorem qcV {c:Nat->Nat->Bool}{kv:Nat->Keyed}{κ:SortKind}{n:Nat}(C:Cmp prog w A E s c kv κ n){R1 R2:List Rn}{la lb rest:List Nat}{w1 w2 g:Nat}{Q:Bool->SortSt->Prop}
  (pm:(flat R1 ++ la ++ lb ++ flat R2 ++ rest).Perm (List.range n)) (sa:Asc c la) (sb:Asc c lb) (a1:1≤la.length) (b1:1≤lb.length)
  (h:∀ (l:List Nat) (g':Nat),l.Perm (la ++ lb)->Asc c l->Q true (SS κ (kvs kv (flat R1 ++ l ++ flat R2 ++ rest)) (pend 0 (R1 ++ (l,w1) :: R2)).toArray g')) :
  wpS (model prog w) A E s (mergeAt' R1.length) Q (SS κ (kvs kv (flat R1 ++ la ++ lb ++ flat R2 ++ rest)) (pend 0 (R1 ++ (la,w1) :: (lb,w2) :: R2)).toArray g):=by
 have nd:(flat R1 ++ la ++ lb ++ flat R2 ++ rest).Nodup:=pm.nodup_iff.mpr List.nodup_range
 have ltn:∀ x∈la ++ lb,x < n:=fun x hx=>List.mem_range.mp (pm.mem_iff.mp (by
  simp only [List.mem_append] at hx ⊢
  rcases hx with q | q
  ·exact .inl (.inl (.inl (.inr q)))
  ·exact .inl (.inl (.inr q))))
 have dis:∀ x∈la,∀ y∈lb,x≠y:=fun x hx y hy e=>by
  have n2:(la ++ lb).Nodup:=by
   refine nd.sublist ?_
   have:(flat R1 ++ la ++ lb ++ flat R2 ++ rest)=flat R1 ++ ((la ++ lb) ++ (flat R2 ++ rest)):=by simp
   rw [this]
   exact (List.sublist_append_left _ _).trans (List.sublist_append_right _ _)
  subst e
  exact (List.nodup_append.mp n2).2.2 x hx x hy rfl
 have p1:(pend 0 (R1 ++ (la,w1) :: (lb,w2) :: R2)).toArray[R1.length]?=some ((flat R1).length,la.length,w1):=by
  rw [List.getElem?_toArray,qa0,List.getElem?_append_right (by rw [qaZ]; exact Nat.le_refl _),qaZ,Nat.sub_self]
  simp [pend]
 have p2:(pend 0 (R1 ++ (la,w1) :: (lb,w2) :: R2)).toArray[R1.length + 1]?=some ((flat R1).length + la.length,lb.length,w2):=by
  rw [List.getElem?_toArray,qa0,List.getElem?_append_right (by rw [qaZ]; omega),qaZ,Nat.add_sub_cancel_left]
  simp [pend]
 have pe:∀ l:List Nat,l.length=la.length + lb.length->(((pend 0 (R1 ++ (la,w1) :: (lb,w2) :: R2)).toArray.setIfInBounds R1.length ((flat R1).length,la.length + lb.length,w1)).eraseIdxIfInBounds (R1.length + 1))=(pend 0 (R1 ++ (l,w1) :: R2)).toArray:=by
  intro l hl
  apply Array.toList_inj.mp
  rw [qa0,qa0]
  have e:pend (0 + (flat R1).length) ((la,w1) :: (lb,w2) :: R2)=((flat R1).length,la.length,w1) :: ((flat R1).length + la.length,lb.length,w2) :: pend ((flat R1).length + la.length + lb.length) R2:=by simp [pend]
  have e':pend (0 + (flat R1).length) ((l,w1) :: R2)=((flat R1).length,la.length + lb.length,w1) :: pend ((flat R1).length + la.length + lb.length) R2:=by simp [pend,hl,Nat.add_assoc]
  rw [e,e',Array.eraseIdxIfInBounds]
  have sz:R1.length + 1 < (((pend 0 R1 ++ ((flat R1).length,la.length,w1) :: ((flat R1).length + la.length,lb.length,w2) :: pend ((flat R1).length + la.length + lb.length) R2).toArray.setIfInBounds R1.length ((flat R1).length,la.length + lb.length,w1))).size:=by simp [qaZ]
  rw [dif_pos sz,Array.toList_eraseIdx,Array.toList_setIfInBounds]
  have q:=qaZ 0 R1
  rw [<- q]
  simp [List.set_append,List.eraseIdx_append_of_length_le]
 have atA:∀ {i:Nat} (hi:i < la.length),(kvs kv (flat R1 ++ la ++ lb ++ flat R2 ++ rest))[(flat R1).length + i]?=some (kv la[i]):=fun {i} hi=>by
  rw [qaq (by simp; omega)]
  congr 2
  simp [List.getElem_append,hi]
 have atB:∀ {i:Nat} (hi:i < lb.length),(kvs kv (flat R1 ++ la ++ lb ++ flat R2 ++ rest))[(flat R1).length + la.length + i]?=some (kv lb[i]):=fun {i} hi=>by
  rw [qaq (by simp; omega)]
  congr 2
  simp [List.getElem_append,hi,Nat.add_assoc]
 have inAB:∀ x∈la,∀ y∈lb,In n y x:=fun x hx y hy=>⟨ltn y (by simp [hy]),ltn x (by simp [hx]),fun e=>dis x hx y hy e.symm⟩
 have O:=C.O
 refine wpS_bind (wpS_get ?_)
 dsimp only
 rw [p1,p2]
 dsimp only
 refine wpS_bind (qla ?_)
 rw [pe (la ++ lb) (by simp)]
 refine wpS_bind (qac (x:=kv lb[0]) (by have:=atB (i:=0) b1; simpa using this) ?_)
 refine wpS_bind (qav (fun i=>!(c lb[0] (la.getD i 0))) (fun i j' hij hj q=>?_) (by omega) (fun i hi=>⟨kv (la.getD i 0),?_,fun Q' z _=>absurd z (by decide),fun Q' _ hQ=>C.lt _ _ (inAB _ (getD_mem hi) _ (List.getElem_mem _)) _ rfl _ (by simpa using hQ)⟩) fun k hk hT hF=>?_)
 ·rw [qaa (show i < la.length by omega)]
  rw [qaa hj] at q
  have q':c lb[0] la[j']=false:=by simpa using q
  simpa using qfd O sa (by omega) (by omega) (by omega) q'
 ·rw [atA hi,qaa hi]
 dsimp only
 have low:∀ x∈la.take k,c lb[0] x=false:=fun x hx=>by
  obtain ⟨i,hi,rfl⟩:=List.mem_iff_getElem.mp hx
  rw [List.length_take] at hi
  rw [List.getElem_take]
  have:=hT i (by omega)
  rw [qaa (show i < la.length by omega)] at this
  simpa using this
 have high:∀ x∈la.drop k,c x lb[0]=false:=fun x hx=>by
  obtain ⟨i,hi,rfl⟩:=List.mem_iff_getElem.mp hx
  rw [List.length_drop] at hi
  rw [List.getElem_drop]
  have:=hF (k + i) (by omega) (by omega)
  rw [qaa (show k + i < la.length by omega)] at this
  exact O.asym _ _ (by simpa using this)
 have geB:∀ y∈lb,c y lb[0]=false:=fun y hy=>by
  obtain ⟨i,hi,rfl⟩:=List.mem_iff_getElem.mp hy
  exact qb1 O sb (Nat.zero_le _) hi
 have lastA:∀ x∈la,c la[la.length - 1] x=false:=fun x hx=>by
  obtain ⟨i,hi,rfl⟩:=List.mem_iff_getElem.mp hx
  exact qb1 O sa (by omega) (by omega)
 by_cases k1:la.length - k=0
 ·rw [if_pos (by simpa using k1)]
  have ek:la.take k=la:=List.take_of_length_le (by omega)
  rw [ek] at low
  have:=h (la ++ lb) g (List.Perm.refl _) (List.pairwise_append.mpr ⟨sa,sb,fun x hx y hy=>O.tr _ _ _ (low x hx) (geB y hy)⟩)
  rw [<- List.append_assoc] at this
  exact wpS_pure this
 rw [if_neg (by simpa using k1)]
 have e3:(flat R1).length + k + (la.length - k) - 1=(flat R1).length + (la.length - 1):=by omega
 rw [e3]
 refine wpS_bind (qac (atA (show la.length - 1 < la.length by omega)) ?_)
 refine wpS_bind (qav (fun i=>c (lb.getD i 0) la[la.length - 1]) (fun i j' hij hj q=>?_) (by omega) (fun i hi=>⟨kv (lb.getD i 0),?_,fun Q' _ hQ=>C.lt _ _ (inAB _ (List.getElem_mem _) _ (getD_mem hi)) _ rfl _ hQ,fun Q' z _=>absurd z (by decide)⟩) fun m hm hT2 hF2=>?_)
 ·rw [qaa (show i < lb.length by omega)]
  rw [qaa hj] at q
  exact qcp O sb (by omega) (by omega) (by omega) q
 ·rw [atB hi,qaa hi]
 dsimp only
 have lowB:∀ y∈lb.take m,c la[la.length - 1] y=false:=fun y hy=>by
  obtain ⟨i,hi,rfl⟩:=List.mem_iff_getElem.mp hy
  rw [List.length_take] at hi
  rw [List.getElem_take]
  have:=hT2 i (by omega)
  rw [qaa (show i < lb.length by omega)] at this
  exact O.asym _ _ this
 have highB:∀ y∈lb.drop m,c y la[la.length - 1]=false:=fun y hy=>by
  obtain ⟨i,hi,rfl⟩:=List.mem_iff_getElem.mp hy
  rw [List.length_drop] at hi
  rw [List.getElem_drop]
  have:=hF2 (m + i) (by omega) (by omega)
  rwa [qaa (show m + i < lb.length by omega)] at this
 by_cases m1:m=0
 ·rw [if_pos (by simpa using m1)]
  subst m1
  have:=h (la ++ lb) g (List.Perm.refl _) (List.pairwise_append.mpr ⟨sa,sb,fun x hx y hy=>O.tr _ _ _ (lastA x hx) (highB y (by simpa using hy))⟩)
  rw [<- List.append_assoc] at this
  exact wpS_pure this
 rw [if_neg (by simpa using m1)]
 have exA:(kvs kv (flat R1 ++ la ++ lb ++ flat R2 ++ rest)).extract ((flat R1).length + k) ((flat R1).length + la.length)=kvs kv (la.drop k):=by
  have e:flat R1 ++ la ++ lb ++ flat R2 ++ rest=(flat R1 ++ la) ++ (lb ++ flat R2 ++ rest):=by simp
  have e2:((flat R1 ++ la ++ lb ++ flat R2 ++ rest).take ((flat R1).length + la.length)).drop ((flat R1).length + k)=la.drop k:=by
   rw [e,List.take_left' (by simp),List.drop_append,List.drop_of_length_le (by omega),List.nil_append,Nat.add_sub_cancel_left]
  rw [qci,e2]
 have exB:(kvs kv (flat R1 ++ la ++ lb ++ flat R2 ++ rest)).extract ((flat R1).length + la.length) ((flat R1).length + la.length + m)=kvs kv (lb.take m):=by
  have e:flat R1 ++ la ++ lb ++ flat R2 ++ rest=(flat R1 ++ la) ++ (lb ++ (flat R2 ++ rest)):=by simp
  have ln:(flat R1 ++ la).length=(flat R1).length + la.length:=by simp
  have e2:((flat R1 ++ la ++ lb ++ flat R2 ++ rest).take ((flat R1).length + la.length + m)).drop ((flat R1).length + la.length)=lb.take m:=by
   rw [e,List.take_append,List.take_of_length_le (by omega),ln,Nat.add_sub_cancel_left,List.take_append_of_le_length hm,List.drop_left' ln]
  rw [qci,e2]
 have fin:∀ (r:Array Keyed) (g':Nat),Fin' c kv (la.drop k) (lb.take m) r->Q true (SS κ (List.foldl (fun (a:Array Keyed) (x:Keyed × Nat)=>a.setIfInBounds ((flat R1).length + k + x.2) x.1) (kvs kv (flat R1 ++ la ++ lb ++ flat R2 ++ rest)) r.toList.zipIdx) (pend 0 (R1 ++ (la ++ lb,w1) :: R2)).toArray g'):=by
  rintro r g' ⟨l,rfl,pl,sl⟩
  have hl:l.length=(la.drop k ++ lb.take m).length:=pl.length_eq
  have e1:flat R1 ++ la ++ lb ++ flat R2 ++ rest=(flat R1 ++ la.take k) ++ (la.drop k ++ lb.take m) ++ (lb.drop m ++ flat R2 ++ rest):=by
   have h1:=List.take_append_drop k la
   have h2:=List.take_append_drop m lb
   calc _=flat R1 ++ (la.take k ++ la.drop k) ++ (lb.take m ++ lb.drop m) ++ flat R2 ++ rest:=by rw [h1,h2]
    _=_:=by simp only [List.append_assoc]
  have pl2:(la.take k ++ l ++ lb.drop m).Perm (la ++ lb):=by
   refine List.Perm.trans (List.Perm.append_right _ (List.Perm.append_left _ pl)) ?_
   have h1:=List.take_append_drop k la
   have h2:=List.take_append_drop m lb
   have:la.take k ++ (la.drop k ++ lb.take m) ++ lb.drop m=la ++ lb:=by
    calc _=(la.take k ++ la.drop k) ++ (lb.take m ++ lb.drop m):=by simp only [List.append_assoc]
     _=_:=by rw [h1,h2]
   rw [this]
  have as:Asc c (la.take k ++ l ++ lb.drop m):=by
   have tdA:Asc c (la.take k ++ la.drop k):=by rw [List.take_append_drop]; exact sa
   have tdB:Asc c (lb.take m ++ lb.drop m):=by rw [List.take_append_drop]; exact sb
   have xa:=(List.pairwise_append.mp tdA).2.2
   have xb:=(List.pairwise_append.mp tdB).2.2
   refine List.pairwise_append.mpr ⟨List.pairwise_append.mpr ⟨sa.sublist (List.take_sublist _ _),sl,fun x hx y hy=>?_⟩,sb.sublist (List.drop_sublist _ _),fun x hx y hy=>?_⟩
   ·rcases List.mem_append.mp (pl.mem_iff.mp hy) with q | q
    ·exact xa x hx y q
    ·exact O.tr _ _ _ (low x hx) (geB y (List.mem_of_mem_take q))
   ·rcases List.mem_append.mp hx with q | q
    ·exact O.tr _ _ _ (lastA x (List.mem_of_mem_take q)) (highB y hy)
    ·rcases List.mem_append.mp (pl.mem_iff.mp q) with q | q
     ·exact O.tr _ _ _ (lastA x (List.mem_of_mem_drop q)) (highB y hy)
     ·exact xb x q y hy
  have:=h _ g' pl2 as
  have e2:pend 0 (R1 ++ (la ++ lb,w1) :: R2)=pend 0 (R1 ++ (la.take k ++ l ++ lb.drop m,w1) :: R2):=by
   have hn:=pl2.length_eq
   rw [qa0,qa0]
   congr 1
   show (_,(la ++ lb).length,w1) :: pend (_ + (la ++ lb).length) R2=(_,(la.take k ++ l ++ lb.drop m).length,w1) :: pend (_ + (la.take k ++ l ++ lb.drop m).length) R2
   rw [hn]
  have e4:List.foldl (fun (a:Array Keyed) (x:Keyed × Nat)=>a.setIfInBounds ((flat R1).length + k + x.2) x.1) (kvs kv (flat R1 ++ la ++ lb ++ flat R2 ++ rest)) (kvs kv l).toList.zipIdx=kvs kv (flat R1 ++ (la.take k ++ l ++ lb.drop m) ++ flat R2 ++ rest):=by
   have f:=qgG kv l (flat R1 ++ la.take k) (la.drop k ++ lb.take m) (lb.drop m ++ flat R2 ++ rest) 0 hl
   rw [<- e1] at f
   have e5:flat R1 ++ la.take k ++ l ++ (lb.drop m ++ flat R2 ++ rest)=flat R1 ++ (la.take k ++ l ++ lb.drop m) ++ flat R2 ++ rest:=by simp only [List.append_assoc]
   rw [e5] at f
   rw [<- f]
   show List.foldl _ _ ((l.map kv).zipIdx 0)=_
   congr 1
   funext a x
   congr 1
   simp
   omega
  rw [e4,e2]
  exact this
 have saD:Asc c (la.drop k):=sa.sublist (List.drop_sublist _ _)
 have sbT:Asc c (lb.take m):=sb.sublist (List.take_sublist _ _)
 have ld:1≤(la.drop k).length:=by rw [List.length_drop]; omega
 have lt:1≤(lb.take m).length:=by rw [List.length_take]; omega
 have lastD:(la.drop k)[(la.drop k).length - 1]=la[la.length - 1]:=by
  rw [List.getElem_drop]
  congr 1
  rw [List.length_drop]; omega
 have firstT:(lb.take m)[0]=lb[0]:=by rw [List.getElem_take]
 have gtD:∀ x∈la.drop k,∀ y∈lb.take m,∀ (g2:Nat) (Q':Option Bool->SortSt->Prop),Q' (some (c y x)) (qaw (SS κ (kvs kv (flat R1 ++ la ++ lb ++ flat R2 ++ rest)) (pend 0 (R1 ++ (la ++ lb,w1) :: R2)).toArray g) g2)->wpS (model prog w) A E s (lt' (kv y) (kv x)) Q' (qaw (SS κ (kvs kv (flat R1 ++ la ++ lb ++ flat R2 ++ rest)) (pend 0 (R1 ++ (la ++ lb,w1) :: R2)).toArray g) g2):=fun x hx y hy g2 Q' hQ=>C.lt _ _ (inAB _ (List.mem_of_mem_drop hx) _ (List.mem_of_mem_take hy)) _ rfl _ hQ
 rw [exA,exB]
 split
 ·refine wpS_bind (qfh O saD sbT ld lt (fun x hx y hy g2 Q' hQ=>C.lt _ _ (by obtain ⟨a,b,d⟩:=inAB _ (List.mem_of_mem_drop hx) _ (List.mem_of_mem_take hy); exact ⟨b,a,fun e=>d e.symm⟩) _ rfl _ hQ) gtD (fun y hy=>by rw [lastD]; exact lowB y hy) (fun y hy=>by rw [firstT]; exact high y hy) fun r g2 hr=>?_)
  refine wpS_bind (wpS_modify (wpS_bind (wpS_get (wpS_pure ?_))))
  exact fin r g2 hr
 ·refine wpS_bind (qfi O saD sbT ld lt gtD (fun y hy=>by rw [lastD]; exact lowB y hy) (fun y hy=>by rw [firstT]; exact high y hy) fun r g2 hr=>?_)
  refine wpS_bind (wpS_modify (wpS_bind (wpS_get (wpS_pure ?_))))
  exact fin r g2 hr
end
def UpO (c:Nat->Nat->Bool)(p:Array Nat)(lo m:Nat):Prop:=∀ i j,lo≤i->i≤j->j < lo + m->c (at' p j) (at' p i)=false
theorem qjw {α β:Type}(f:α->β)(xs:Array α)(i j:Nat):(xs.map f).swapIfInBounds i j=(xs.swapIfInBounds i j).map f:=by
 rw [Array.swapIfInBounds_def,Array.swapIfInBounds_def]
 by_cases h1:i < xs.size
 ·by_cases h2:j < xs.size
  ·rw [dif_pos (by simpa using h1),dif_pos (by simpa using h2),dif_pos h1,dif_pos h2]
   apply Array.ext (by simp)
   intro k hk1 hk2
   simp [Array.getElem_swap]
   split <;> (try split) <;> rfl
  ·rw [dif_pos (by simpa using h1),dif_neg (by simpa using h2),dif_pos h1,dif_neg h2]
 ·rw [dif_neg (by simpa using h1),dif_neg h1]
theorem qcW {α β γ:Type}(f:α->β)(p q:γ->Nat):∀ (l:List γ) (xs:Array α),l.foldl (fun a k=>a.swapIfInBounds (p k) (q k)) (xs.map f)=(l.foldl (fun a k=>a.swapIfInBounds (p k) (q k)) xs).map f
 | [],xs=>rfl
 | k :: l,xs=>by rw [List.foldl_cons,List.foldl_cons,qjw,qcW f p q l]
theorem qhh {α β:Type}(f:α->β)(xs:Array α)(i d:Nat):bubble (xs.map f) i d=(bubble xs i d).map f:=qcW f _ _ _ _
theorem qg9 {α β:Type}(f:α->β)(xs:Array α)(i j d:Nat):mirror (xs.map f) i j d=(mirror xs i j d).map f:=qcW f _ _ _ _
section
variable {prog:Program}{w:World}{A:Around}{E:Value->Shared->Prop}{s:Shared}
theorem qaP {c:Nat->Nat->Bool}{kv:Nat->Keyed}{κ:SortKind}{n:Nat}(C:Cmp prog w A E s c kv κ n){p:Array Nat}(hp:Of n p){pd:Array (Nat × Nat × Nat)}{g i j:Nat}(hi:i < n)(hj:j < n)(ne:i≠j){Q:Option Bool->SortSt->Prop}(h:Q (some (c (at' p i) (at' p j))) (SS κ (p.map kv) pd g)):wpS (model prog w) A E s (ltAt' i j) Q (SS κ (p.map kv) pd g):=by
 have sz:=hp.size
 rw [ltAt'_eq]
 refine wpS_bind (wpS_get ?_)
 have ei:∀ {i:Nat},i < n->(p.map kv)[i]?=some (kv (at' p i)):=fun {i} hi=>by
  rw [Array.getElem?_map]
  unfold at'
  rw [Array.getD_eq_getD_getElem?]
  rw [getElem?_pos p i (by omega)]
  rfl
 refine wpS_bind (qac (ei hi) (wpS_bind (qac (ei hj) ?_)))
 exact C.lt _ _ (hp.inn hi hj ne) _ rfl _ h
theorem qgQ {c:Nat->Nat->Bool}{kv:Nat->Keyed}{κ:SortKind}{n:Nat}(C:Cmp prog w A E s c kv κ n){p:Array Nat}(hp:Of n p){pd:Array (Nat × Nat × Nat)}{g lo m ok:Nat}(hm:lo + m≤n)(hok:ok≤m)(u:UpO c p lo ok){Q:Bool->SortSt->Prop}
  (h:∀ p':Array Nat,Of n p'->UpO c p' lo m->(∀ i,i < lo->at' p' i=at' p i)->Q true (SS κ (p'.map kv) pd g)):wpS (model prog w) A E s (binarySort' lo m ok) Q (SS κ (p.map kv) pd g):=by
 have O:=C.O
 rw [binarySort'_eq]
 refine wpS_bind (wpS_mono (wpS_forRange (I:=fun k z st'=>z=(none,())/\∃ p':Array Nat,st'=SS κ (p'.map kv) pd g/\Of n p'/\UpO c p' lo (min k m)/\∀ i,i < lo->at' p' i=at' p i)
  (Q:=fun z st'=>z=(none,())/\∃ p':Array Nat,st'=SS κ (p'.map kv) pd g/\Of n p'/\UpO c p' lo m/\∀ i,i < lo->at' p' i=at' p i) ?_ ?_ ?_) ?_)
 ·rintro k z st' hk1 hk2 ⟨rfl,p',rfl,o',u',pr⟩
  rw [show min k m=k by omega] at u'
  have sz:=o'.size
  refine wpS_bind (wpS_mono (wpS_forRange (I:=fun x z st''=>st''=SS κ (p'.map kv) pd g/\∃ l r,z=(none,l,r)/\l≤r/\r≤k/\r - l≤k - x/\(∀ i,i < l->c (at' p' (lo + k)) (at' p' (lo + i))=false)/\∀ i,r≤i->i < k->c (at' p' (lo + i)) (at' p' (lo + k))=false)
   (Q:=fun z st''=>st''=SS κ (p'.map kv) pd g/\∃ l,(∃ r,z=(none,l,r))/\l≤k/\(∀ i,i < l->c (at' p' (lo + k)) (at' p' (lo + i))=false)/\∀ i,l≤i->i < k->c (at' p' (lo + i)) (at' p' (lo + k))=false) ?_ ?_ ⟨rfl,0,k,rfl,by omega,by omega,by omega,fun i hi=>by omega,fun i h1 h2=>by omega⟩) ?_)
  ·rintro x z st'' _ hx ⟨rfl,l,r,rfl,hlr,hrk,hd,h1,h2⟩
   dsimp only
   by_cases e:l ≥ r
   ·rw [if_pos e]
    obtain rfl:l=r:=by omega
    exact wpS_pure ⟨rfl,l,⟨_,rfl⟩,hrk,h1,h2⟩
   ·rw [if_neg e]
    refine wpS_bind (qaP C o' (by omega) (by omega) (by omega) ?_)
    dsimp only
    cases hc:c (at' p' (lo + k)) (at' p' (lo + (l + r) / 2)) with
    | true =>
     simp only [if_true]
     exact wpS_pure ⟨rfl,_,_,rfl,by omega,by omega,by omega,h1,fun i q1 q2=>O.tr _ _ _ (O.asym _ _ hc) (u' _ _ (by omega) (by omega) (by omega))⟩
    | false =>
     simp only [Bool.false_eq_true,if_false]
     exact wpS_pure ⟨rfl,_,_,rfl,by omega,by omega,by omega,fun i q=>O.tr _ _ _ (u' _ _ (by omega) (by omega) (by omega)) hc,h2⟩
  ·rintro z st'' ⟨rfl,l,r,rfl,hlr,hrk,hd,h1,h2⟩
   obtain rfl:l=r:=by omega
   exact ⟨rfl,l,⟨_,rfl⟩,hrk,h1,h2⟩
  ·rintro z st'' ⟨rfl,l,⟨r,rfl⟩,hlk,h1,h2⟩
   dsimp only
   rw [moveDown'_eq]
   refine wpS_bind (wpS_modify (wpS_pure ⟨rfl,bubble p' (lo + k) (lo + k - (lo + l)),?_,o'.bub _ _,?_,?_⟩))
   ·show SS κ (bubble (p'.map kv) (lo + k) (lo + k - (lo + l))) pd g=_
    rw [qhh]
   ·rw [show min (k + 1) m=k + 1 by omega]
    intro i j hi hij hj
    rw [qjl (by omega) (by omega),qjl (by omega) (by omega)]
    by_cases ji:j=lo + l
    ·rw [if_pos ji]
     by_cases ii:i=lo + l
     ·rw [if_pos ii]; exact O.irr _
     ·rw [if_neg ii,if_neg (by omega)]
      have:=h1 (i - lo) (by omega)
      rwa [show lo + (i - lo)=i by omega] at this
    ·rw [if_neg ji]
     by_cases ii:i=lo + l
     ·rw [if_pos ii,if_pos (by omega)]
      have:=h2 (j - 1 - lo) (by omega) (by omega)
      rwa [show lo + (j - 1 - lo)=j - 1 by omega] at this
     ·rw [if_neg ii]
      split <;> split
      ·exact u' _ _ (by omega) (by omega) (by omega)
      ·exact u' _ _ (by omega) (by omega) (by omega)
      ·omega
      ·exact u' _ _ (by omega) (by omega) (by omega)
   ·intro i hi
    rw [qjl (by omega) (by omega),if_neg (by omega),if_neg (by omega)]
    exact pr i hi
 ·rintro z st' ⟨rfl,p',rfl,o',u',pr⟩
  refine ⟨rfl,p',rfl,o',?_,pr⟩
  rwa [show min (max (max ok 1) m) m=m by omega] at u'
 ·refine ⟨rfl,p,rfl,hp,fun i j hi hij hj=>?_,fun _ _=>rfl⟩
  by_cases q:ok=0
  ·have:i=j:=by omega
   subst this; exact O.irr _
  ·exact u i j hi hij (by omega)
 ·rintro z st' ⟨rfl,p',rfl,o',u',pr⟩
  exact wpS_pure (h p' o' u' pr)
end
def DnO (c:Nat->Nat->Bool)(p:Array Nat)(lo m:Nat):Prop:=∀ i j,lo≤i->i≤j->j < lo + m->c (at' p i) (at' p j)=false
def EqO (c:Nat->Nat->Bool)(p:Array Nat)(lo m q:Nat):Prop:=∀ i j,lo + m≤i + (q + 1)->lo + m≤j + (q + 1)->i < lo + m->j < lo + m->c (at' p i) (at' p j)=false
section
variable {c:Nat->Nat->Bool}(O:Ord c)
include O
theorem qb8 {p:Array Nat}{lo m:Nat}(h:UpO c p lo m)(h1:1≤m)(e:c (at' p (lo + m)) (at' p (lo + m - 1))=false):UpO c p lo (m + 1):=by
 intro i j hi hij hj
 by_cases q:j < lo + m
 ·exact h i j hi hij q
 ·obtain rfl:j=lo + m:=by omega
  by_cases r:i=lo + m
  ·subst r; exact O.irr _
  ·exact O.tr _ _ _ (h i (lo + m - 1) hi (by omega) (by omega)) e
theorem qbC {p:Array Nat}{lo m:Nat}(h:DnO c p lo m)(h1:1≤m)(e:c (at' p (lo + m - 1)) (at' p (lo + m))=false):DnO c p lo (m + 1):=by
 intro i j hi hij hj
 by_cases q:j < lo + m
 ·exact h i j hi hij q
 ·obtain rfl:j=lo + m:=by omega
  by_cases r:i=lo + m
  ·subst r; exact O.irr _
  ·exact O.tr _ _ _ e (h i (lo + m - 1) hi (by omega) (by omega))
theorem qep {p:Array Nat}{lo m q:Nat}(hm:lo + m≤p.size)(d:DnO c p lo m)(e:EqO c p lo m q)(hq:q + 1≤m):DnO c (kas_rev p (lo + m - (q + 1)) (lo + m)) lo m:=by
 intro i j hi hij hj
 rw [qa5 hm,qa5 hm]
 split <;> split
 ·exact e _ _ (by omega) (by omega) (by omega) (by omega)
 ·omega
 ·exact d _ _ (by omega) (by omega) (by omega)
 ·exact d _ _ hi hij hj
theorem qb9 {p:Array Nat}{lo m:Nat}(hm:lo + m≤p.size)(d:DnO c p lo m):UpO c (kas_rev p lo (lo + m)) lo m:=by
 intro i j hi hij hj
 rw [qa5 hm,qa5 hm,if_pos (by omega),if_pos (by omega)]
 exact d _ _ (by omega) (by omega) (by omega)
end
section
variable {prog:Program}{w:World}{A:Around}{E:Value->Shared->Prop}{s:Shared}
theorem qbv {kv:Nat->Keyed}{κ:SortKind}{p:Array Nat}{pd:Array (Nat × Nat × Nat)}{g i j:Nat}{Q:Unit->SortSt->Prop}(h:Q () (SS κ ((kas_rev p i j).map kv) pd g)):wpS (model prog w) A E s (reverseSlice' i j) Q (SS κ (p.map kv) pd g):=by
 rw [reverseSlice'_eq]
 refine wpS_modify ?_
 have e:(mirror (p.map kv) i j ((j - i) / 2))=(kas_rev p i j).map kv:=qg9 kv p i j _
 show Q () (SS κ (mirror (p.map kv) i j ((j - i) / 2)) pd g)
 rw [e]; exact h
theorem qho {c:Nat->Nat->Bool}{kv:Nat->Keyed}{κ:SortKind}{n:Nat}(C:Cmp prog w A E s c kv κ n){p:Array Nat}(hp:Of n p){pd:Array (Nat × Nat × Nat)}{g lo m:Nat}(hm:lo + m≤n)(h1:1≤m){Q:Option Nat->SortSt->Prop}
  (h:∀ (r:Nat) (p':Array Nat),1≤r->r≤m->Of n p'->UpO c p' lo r->(∀ i,i < lo->at' p' i=at' p i)->Q (some r) (SS κ (p'.map kv) pd g)):wpS (model prog w) A E s (countRun' lo m) Q (SS κ (p.map kv) pd g):=by
 have O:=C.O
 rw [countRun'_eq]
 refine wpS_bind (wpS_mono (wpS_forRange (I:=fun x z st'=>st'=SS κ (p.map kv) pd g/\z=(none,x)/\UpO c p lo x)
  (Q:=fun z st'=>st'=SS κ (p.map kv) pd g/\∃ x,z=(none,x)/\1≤x/\x≤m/\UpO c p lo x/\(x=m\/(x < m/\c (at' p (lo + x)) (at' p (lo + x - 1))=true))) ?_ ?_ ⟨rfl,rfl,fun i j hi hij hj=>by have:i=j:=(by omega); subst this; exact O.irr _⟩) ?_)
 ·rintro x z st' hx1 hx2 ⟨rfl,rfl,u⟩
  dsimp only
  refine wpS_bind (qaP C hp (by omega) (by omega) (by omega) ?_)
  dsimp only
  cases hc:c (at' p (lo + x)) (at' p (lo + x - 1)) with
  | true =>
   simp only [if_true]
   exact wpS_pure ⟨rfl,x,rfl,hx1,by omega,u,.inr ⟨hx2,hc⟩⟩
  | false =>
   simp only [Bool.false_eq_true,if_false]
   exact wpS_pure ⟨rfl,rfl,qb8 O u hx1 hc⟩
 ·rintro z st' ⟨rfl,rfl,u⟩
  rw [show max 1 m=m by omega] at u ⊢
  exact ⟨rfl,m,rfl,h1,Nat.le_refl _,u,.inl rfl⟩
 ·rintro z st' ⟨rfl,x,rfl,hx1,hx2,u,hor⟩
  dsimp only
  by_cases e:x=m
  ·rw [if_pos (by simpa using e)]
   exact wpS_pure (h x p hx1 hx2 hp u fun _ _=>rfl)
  rw [if_neg (by simpa using e)]
  have hc:=(hor.resolve_left e).2
  have xm:=(hor.resolve_left e).1
  have szp:=hp.size
  by_cases x1:x > 1
  ·rw [if_pos x1]
   refine wpS_bind (qaP C hp (by omega) (by omega) (by omega) ?_)
   dsimp only
   cases hr:c (at' p lo) (at' p (lo + x - 1)) with
   | true =>
    simp only [if_true]
    exact wpS_pure (h x p hx1 hx2 hp u fun _ _=>rfl)
   | false =>
    simp only [Bool.false_eq_true,if_false]
    have all:∀ a b,lo≤a->a < lo + x->lo≤b->b < lo + x->c (at' p a) (at' p b)=false:=fun a b a1 a2 b1 b2 =>
     O.tr _ _ _ (u b (lo + x - 1) b1 (by omega) (by omega)) (O.tr _ _ _ hr (u lo a (Nat.le_refl _) a1 a2))
    refine wpS_bind (qbv ?_)
    have ox:=hp.rev lo (lo + x)
    have dx:DnO c (kas_rev p lo (lo + x)) lo (x + 1):=by
     intro i j hi hij hj
     rw [qa5 (by omega),qa5 (by omega)]
     by_cases ej:j < lo + x
     ·rw [if_pos (by omega),if_pos (by omega)]
      exact all _ _ (by omega) (by omega) (by omega) (by omega)
     ·obtain rfl:j=lo + x:=by omega
      rw [if_neg (show ¬ (lo≤lo + x/\lo + x < lo + x) by omega)]
      by_cases ei:i < lo + x
      ·rw [if_pos (by omega)]
       exact O.tr _ _ _ (O.asym _ _ hc) (all _ _ (by omega) (by omega) (by omega) (by omega))
      ·rw [if_neg (by omega)]
       obtain rfl:i=lo + x:=by omega
       exact O.irr _
    have prx:∀ i,i < lo->at' (kas_rev p lo (lo + x)) i=at' p i:=fun i hi=>by rw [qa5 (by omega),if_neg (by omega)]
    refine wpS_bind (wpS_lift (wpAny_rule ⟨rfl,?_⟩))
    refine wpS_bind (wpS_mono (wpS_forRange (I:=fun y z st'=>∃ q p',st'=SS κ (p'.map kv) pd g/\z=(none,y,q)/\Of n p'/\DnO c p' lo y/\EqO c p' lo y q/\q + 1≤y/\∀ i,i < lo->at' p' i=at' p i)
     (Q:=fun z st'=>∃ y q p',st'=SS κ (p'.map kv) pd g/\z=(none,y,q)/\1≤y/\y≤m/\Of n p'/\DnO c p' lo y/\EqO c p' lo y q/\q + 1≤y/\∀ i,i < lo->at' p' i=at' p i) ?_ ?_ ⟨0,kas_rev p lo (lo + x),rfl,rfl,ox,dx,fun i j a1 a2 a3 a4=>by have:i=j:=(by omega); subst this; exact O.irr _,by omega,prx⟩) ?_)
    ·rintro y z st' hy1 hy2 ⟨q,p',rfl,rfl,o',d',e',hq,pr'⟩
     have sz:=o'.size
     dsimp only
     refine wpS_bind (qaP C o' (by omega) (by omega) (by omega) ?_)
     dsimp only
     cases hc1:c (at' p' (lo + y)) (at' p' (lo + y - 1)) with
     | true =>
      simp only [if_true]
      have as:=O.asym _ _ hc1
      by_cases q0:q > 0
      ·rw [if_pos q0]
       refine wpS_bind (qbv (wpS_pure ⟨0,_,rfl,rfl,o'.rev _ _,qbC O (qep O (by omega) d' e' hq) (by omega) ?_,fun i j a1 a2 a3 a4=>by have:i=j:=(by omega); subst this; exact O.irr _,by omega,fun i hi=>?_⟩))
       ·rw [qa5 (by omega),qa5 (by omega),if_pos (by omega),if_neg (by omega)]
        exact O.tr _ _ _ as (e' _ _ (by omega) (by omega) (by omega) (by omega))
       ·rw [qa5 (by omega),if_neg (by omega)]
        exact pr' i hi
      ·rw [if_neg q0]
       exact wpS_pure ⟨0,p',rfl,rfl,o',qbC O d' (by omega) as,fun i j a1 a2 a3 a4=>by have:i=j:=(by omega); subst this; exact O.irr _,by omega,pr'⟩
     | false =>
      simp only [Bool.false_eq_true,if_false]
      refine wpS_bind (qaP C o' (by omega) (by omega) (by omega) ?_)
      dsimp only
      cases hc2:c (at' p' (lo + y - 1)) (at' p' (lo + y)) with
      | true =>
       simp only [if_true]
       exact wpS_pure ⟨y,q,p',rfl,rfl,by omega,by omega,o',d',e',hq,pr'⟩
      | false =>
       simp only [Bool.false_eq_true,if_false]
       refine wpS_pure ⟨q + 1,p',rfl,rfl,o',qbC O d' (by omega) hc2,fun i j a1 a2 a3 a4=>?_,by omega,pr'⟩
       by_cases ei:i=lo + y
       ·by_cases ej:j=lo + y
        ·rw [ei,ej]; exact O.irr _
        ·rw [ei]
         exact O.tr _ _ _ (e' (lo + y - 1) j (by omega) (by omega) (by omega) (by omega)) hc1
       ·by_cases ej:j=lo + y
        ·rw [ej]
         exact O.tr _ _ _ hc2 (e' i (lo + y - 1) (by omega) (by omega) (by omega) (by omega))
        ·exact e' i j (by omega) (by omega) (by omega) (by omega)
    ·rintro z st' ⟨q,p',rfl,rfl,o',d',e',hq,pr'⟩
     rw [show max (x + 1) m=m by omega] at d' e' hq ⊢
     exact ⟨m,q,p',rfl,rfl,h1,Nat.le_refl _,o',d',e',hq,pr'⟩
    ·rintro z st' ⟨y,q,p',rfl,rfl,hy1,hy2,o',d',e',hq,pr'⟩
     have sz:=o'.size
     dsimp only
     by_cases q0:q > 0
     ·rw [if_pos q0]
      refine wpS_bind (qbv ?_)
      have oz:=o'.rev (lo + y - (q + 1)) (lo + y)
      have dz:=qep O (by omega) d' e' hq
      have prz:∀ i,i < lo->at' (kas_rev p' (lo + y - (q + 1)) (lo + y)) i=at' p i:=fun i hi=>by
       rw [qa5 (by omega),if_neg (by omega)]; exact pr' i hi
      refine wpS_bind (qbv ?_)
      refine wpS_bind (wpS_mono (wpS_forRange (I:=fun t z st'=>st'=SS κ ((kas_rev (kas_rev p' (lo + y - (q + 1)) (lo + y)) lo (lo + y)).map kv) pd g/\z=(none,t)/\UpO c (kas_rev (kas_rev p' (lo + y - (q + 1)) (lo + y)) lo (lo + y)) lo t)
       (Q:=fun z st'=>st'=SS κ ((kas_rev (kas_rev p' (lo + y - (q + 1)) (lo + y)) lo (lo + y)).map kv) pd g/\∃ t,z=(none,t)/\1≤t/\t≤m/\UpO c (kas_rev (kas_rev p' (lo + y - (q + 1)) (lo + y)) lo (lo + y)) lo t) ?_ ?_ ⟨rfl,rfl,qb9 O (by rw [oz.size]; omega) dz⟩) ?_)
      ·rintro t z st' ht1 ht2 ⟨rfl,rfl,ut⟩
       dsimp only
       refine wpS_bind (qaP C (oz.rev _ _) (by omega) (by omega) (by omega) ?_)
       dsimp only
       cases hct:c (at' (kas_rev (kas_rev p' (lo + y - (q + 1)) (lo + y)) lo (lo + y)) (lo + t)) (at' (kas_rev (kas_rev p' (lo + y - (q + 1)) (lo + y)) lo (lo + y)) (lo + t - 1)) with
       | true =>
        simp only [if_true]
        exact wpS_pure ⟨rfl,t,rfl,by omega,by omega,ut⟩
       | false =>
        simp only [Bool.false_eq_true,if_false]
        exact wpS_pure ⟨rfl,rfl,qb8 O ut (by omega) hct⟩
      ·rintro z st' ⟨rfl,rfl,ut⟩
       rw [show max y m=m by omega] at ut ⊢
       exact ⟨rfl,m,rfl,h1,Nat.le_refl _,ut⟩
      ·rintro z st' ⟨rfl,t,rfl,ht1,ht2,ut⟩
       refine wpS_pure (h t _ ht1 ht2 (oz.rev _ _) ut fun i hi=>?_)
       rw [qa5 (by rw [oz.size]; omega),if_neg (by omega)]
       exact prz i hi
     ·rw [if_neg q0]
      have oz:=o'
      have dz:=d'
      have prz:=pr'
      refine wpS_bind (qbv ?_)
      refine wpS_bind (wpS_mono (wpS_forRange (I:=fun t z st'=>st'=SS κ ((kas_rev (p') lo (lo + y)).map kv) pd g/\z=(none,t)/\UpO c (kas_rev (p') lo (lo + y)) lo t)
       (Q:=fun z st'=>st'=SS κ ((kas_rev (p') lo (lo + y)).map kv) pd g/\∃ t,z=(none,t)/\1≤t/\t≤m/\UpO c (kas_rev (p') lo (lo + y)) lo t) ?_ ?_ ⟨rfl,rfl,qb9 O (by rw [oz.size]; omega) dz⟩) ?_)
      ·rintro t z st' ht1 ht2 ⟨rfl,rfl,ut⟩
       dsimp only
       refine wpS_bind (qaP C (oz.rev _ _) (by omega) (by omega) (by omega) ?_)
       dsimp only
       cases hct:c (at' (kas_rev (p') lo (lo + y)) (lo + t)) (at' (kas_rev (p') lo (lo + y)) (lo + t - 1)) with
       | true =>
        simp only [if_true]
        exact wpS_pure ⟨rfl,t,rfl,by omega,by omega,ut⟩
       | false =>
        simp only [Bool.false_eq_true,if_false]
        exact wpS_pure ⟨rfl,rfl,qb8 O ut (by omega) hct⟩
      ·rintro z st' ⟨rfl,rfl,ut⟩
       rw [show max y m=m by omega] at ut ⊢
       exact ⟨rfl,m,rfl,h1,Nat.le_refl _,ut⟩
      ·rintro z st' ⟨rfl,t,rfl,ht1,ht2,ut⟩
       refine wpS_pure (h t _ ht1 ht2 (oz.rev _ _) ut fun i hi=>?_)
       rw [qa5 (by rw [oz.size]; omega),if_neg (by omega)]
       exact prz i hi
  ·rw [if_neg x1]
   obtain rfl:x=1:=by omega
   have ox:=hp
   have dx:DnO c p lo (1 + 1):=qbC O (m:=1) (fun i j hi hij hj=>by have:i=j:=(by omega); subst this; exact O.irr _) (by omega) (O.asym _ _ hc)
   have prx:∀ i,i < lo->at' p i=at' p i:=fun _ _=>rfl
   refine wpS_bind (wpS_lift (wpAny_rule ⟨rfl,?_⟩))
   refine wpS_bind (wpS_mono (wpS_forRange (I:=fun y z st'=>∃ q p',st'=SS κ (p'.map kv) pd g/\z=(none,y,q)/\Of n p'/\DnO c p' lo y/\EqO c p' lo y q/\q + 1≤y/\∀ i,i < lo->at' p' i=at' p i)
    (Q:=fun z st'=>∃ y q p',st'=SS κ (p'.map kv) pd g/\z=(none,y,q)/\1≤y/\y≤m/\Of n p'/\DnO c p' lo y/\EqO c p' lo y q/\q + 1≤y/\∀ i,i < lo->at' p' i=at' p i) ?_ ?_ ⟨0,p,rfl,rfl,ox,dx,fun i j a1 a2 a3 a4=>by have:i=j:=(by omega); subst this; exact O.irr _,by omega,prx⟩) ?_)
   ·rintro y z st' hy1 hy2 ⟨q,p',rfl,rfl,o',d',e',hq,pr'⟩
    have sz:=o'.size
    dsimp only
    refine wpS_bind (qaP C o' (by omega) (by omega) (by omega) ?_)
    dsimp only
    cases hc1:c (at' p' (lo + y)) (at' p' (lo + y - 1)) with
    | true =>
     simp only [if_true]
     have as:=O.asym _ _ hc1
     by_cases q0:q > 0
     ·rw [if_pos q0]
      refine wpS_bind (qbv (wpS_pure ⟨0,_,rfl,rfl,o'.rev _ _,qbC O (qep O (by omega) d' e' hq) (by omega) ?_,fun i j a1 a2 a3 a4=>by have:i=j:=(by omega); subst this; exact O.irr _,by omega,fun i hi=>?_⟩))
      ·rw [qa5 (by omega),qa5 (by omega),if_pos (by omega),if_neg (by omega)]
       exact O.tr _ _ _ as (e' _ _ (by omega) (by omega) (by omega) (by omega))
      ·rw [qa5 (by omega),if_neg (by omega)]
       exact pr' i hi
     ·rw [if_neg q0]
      exact wpS_pure ⟨0,p',rfl,rfl,o',qbC O d' (by omega) as,fun i j a1 a2 a3 a4=>by have:i=j:=(by omega); subst this; exact O.irr _,by omega,pr'⟩
    | false =>
     simp only [Bool.false_eq_true,if_false]
     refine wpS_bind (qaP C o' (by omega) (by omega) (by omega) ?_)
     dsimp only
     cases hc2:c (at' p' (lo + y - 1)) (at' p' (lo + y)) with
     | true =>
      simp only [if_true]
      exact wpS_pure ⟨y,q,p',rfl,rfl,by omega,by omega,o',d',e',hq,pr'⟩
     | false =>
      simp only [Bool.false_eq_true,if_false]
      refine wpS_pure ⟨q + 1,p',rfl,rfl,o',qbC O d' (by omega) hc2,fun i j a1 a2 a3 a4=>?_,by omega,pr'⟩
      by_cases ei:i=lo + y
      ·by_cases ej:j=lo + y
       ·rw [ei,ej]; exact O.irr _
       ·rw [ei]
        exact O.tr _ _ _ (e' (lo + y - 1) j (by omega) (by omega) (by omega) (by omega)) hc1
      ·by_cases ej:j=lo + y
       ·rw [ej]
        exact O.tr _ _ _ hc2 (e' i (lo + y - 1) (by omega) (by omega) (by omega) (by omega))
       ·exact e' i j (by omega) (by omega) (by omega) (by omega)
   ·rintro z st' ⟨q,p',rfl,rfl,o',d',e',hq,pr'⟩
    rw [show max (1 + 1) m=m by omega] at d' e' hq ⊢
    exact ⟨m,q,p',rfl,rfl,h1,Nat.le_refl _,o',d',e',hq,pr'⟩
   ·rintro z st' ⟨y,q,p',rfl,rfl,hy1,hy2,o',d',e',hq,pr'⟩
    have sz:=o'.size
    dsimp only
    by_cases q0:q > 0
    ·rw [if_pos q0]
     refine wpS_bind (qbv ?_)
     have oz:=o'.rev (lo + y - (q + 1)) (lo + y)
     have dz:=qep O (by omega) d' e' hq
     have prz:∀ i,i < lo->at' (kas_rev p' (lo + y - (q + 1)) (lo + y)) i=at' p i:=fun i hi=>by
      rw [qa5 (by omega),if_neg (by omega)]; exact pr' i hi
     refine wpS_bind (qbv ?_)
     refine wpS_bind (wpS_mono (wpS_forRange (I:=fun t z st'=>st'=SS κ ((kas_rev (kas_rev p' (lo + y - (q + 1)) (lo + y)) lo (lo + y)).map kv) pd g/\z=(none,t)/\UpO c (kas_rev (kas_rev p' (lo + y - (q + 1)) (lo + y)) lo (lo + y)) lo t)
      (Q:=fun z st'=>st'=SS κ ((kas_rev (kas_rev p' (lo + y - (q + 1)) (lo + y)) lo (lo + y)).map kv) pd g/\∃ t,z=(none,t)/\1≤t/\t≤m/\UpO c (kas_rev (kas_rev p' (lo + y - (q + 1)) (lo + y)) lo (lo + y)) lo t) ?_ ?_ ⟨rfl,rfl,qb9 O (by rw [oz.size]; omega) dz⟩) ?_)
     ·rintro t z st' ht1 ht2 ⟨rfl,rfl,ut⟩
      dsimp only
      refine wpS_bind (qaP C (oz.rev _ _) (by omega) (by omega) (by omega) ?_)
      dsimp only
      cases hct:c (at' (kas_rev (kas_rev p' (lo + y - (q + 1)) (lo + y)) lo (lo + y)) (lo + t)) (at' (kas_rev (kas_rev p' (lo + y - (q + 1)) (lo + y)) lo (lo + y)) (lo + t - 1)) with
      | true =>
       simp only [if_true]
       exact wpS_pure ⟨rfl,t,rfl,by omega,by omega,ut⟩
      | false =>
       simp only [Bool.false_eq_true,if_false]
       exact wpS_pure ⟨rfl,rfl,qb8 O ut (by omega) hct⟩
     ·rintro z st' ⟨rfl,rfl,ut⟩
      rw [show max y m=m by omega] at ut ⊢
      exact ⟨rfl,m,rfl,h1,Nat.le_refl _,ut⟩
     ·rintro z st' ⟨rfl,t,rfl,ht1,ht2,ut⟩
      refine wpS_pure (h t _ ht1 ht2 (oz.rev _ _) ut fun i hi=>?_)
      rw [qa5 (by rw [oz.size]; omega),if_neg (by omega)]
      exact prz i hi
    ·rw [if_neg q0]
     have oz:=o'
     have dz:=d'
     have prz:=pr'
     refine wpS_bind (qbv ?_)
     refine wpS_bind (wpS_mono (wpS_forRange (I:=fun t z st'=>st'=SS κ ((kas_rev (p') lo (lo + y)).map kv) pd g/\z=(none,t)/\UpO c (kas_rev (p') lo (lo + y)) lo t)
      (Q:=fun z st'=>st'=SS κ ((kas_rev (p') lo (lo + y)).map kv) pd g/\∃ t,z=(none,t)/\1≤t/\t≤m/\UpO c (kas_rev (p') lo (lo + y)) lo t) ?_ ?_ ⟨rfl,rfl,qb9 O (by rw [oz.size]; omega) dz⟩) ?_)
     ·rintro t z st' ht1 ht2 ⟨rfl,rfl,ut⟩
      dsimp only
      refine wpS_bind (qaP C (oz.rev _ _) (by omega) (by omega) (by omega) ?_)
      dsimp only
      cases hct:c (at' (kas_rev (p') lo (lo + y)) (lo + t)) (at' (kas_rev (p') lo (lo + y)) (lo + t - 1)) with
      | true =>
       simp only [if_true]
       exact wpS_pure ⟨rfl,t,rfl,by omega,by omega,ut⟩
      | false =>
       simp only [Bool.false_eq_true,if_false]
       exact wpS_pure ⟨rfl,rfl,qb8 O ut (by omega) hct⟩
     ·rintro z st' ⟨rfl,rfl,ut⟩
      rw [show max y m=m by omega] at ut ⊢
      exact ⟨rfl,m,rfl,h1,Nat.le_refl _,ut⟩
     ·rintro z st' ⟨rfl,t,rfl,ht1,ht2,ut⟩
      refine wpS_pure (h t _ ht1 ht2 (oz.rev _ _) ut fun i hi=>?_)
      rw [qa5 (by rw [oz.size]; omega),if_neg (by omega)]
      exact prz i hi
end
structure Gd (c:Nat->Nat->Bool)(R:List Rn):Prop where
 up:∀ r∈R,Asc c r.1/\1≤r.1.length
theorem qbX (R S:List Rn):flat (R ++ S)=flat R ++ flat S:=by simp [flat]
theorem qbW (l:List Nat)(x:Nat):flat [(l,x)]=l:=by simp [flat]
theorem qko (l m:List Nat)(x y:Nat)(R:List Rn):flat ((l,x) :: (m,y) :: R)=l ++ m ++ flat R:=by simp [flat]
theorem qk3 {c:Nat->Nat->Bool}:∀ {R:List Rn},Gd c R->R.length≤(flat R).length
 | [],_=>Nat.zero_le _
 | (l,x) :: R,h=>by
  have h1:=(h.up (l,x) (by simp)).2
  have h2:=qk3 (R:=R) ⟨fun r hr=>h.up r (List.mem_cons_of_mem _ hr)⟩
  have:(flat ((l,x) :: R)).length=l.length + (flat R).length:=by simp [flat]
  rw [this,List.length_cons]
  dsimp only at h1
  omega
theorem Gd.app {c:Nat->Nat->Bool}{R S:List Rn}(h:Gd c R)(k:Gd c S):Gd c (R ++ S):=⟨fun r hr=>by
 rcases List.mem_append.mp hr with q | q
 ·exact h.up r q
 ·exact k.up r q⟩
theorem Gd.left {c:Nat->Nat->Bool}{R S:List Rn}(h:Gd c (R ++ S)):Gd c R:=⟨fun r hr=>h.up r (List.mem_append_left _ hr)⟩
theorem Gd.right {c:Nat->Nat->Bool}{R S:List Rn}(h:Gd c (R ++ S)):Gd c S:=⟨fun r hr=>h.up r (List.mem_append_right _ hr)⟩
theorem Gd.one {c:Nat->Nat->Bool}{l:List Nat}{x:Nat}(h:Asc c l)(k:1≤l.length):Gd c [(l,x)]:=⟨fun r hr=>by rw [List.mem_singleton] at hr; subst hr; exact ⟨h,k⟩⟩
theorem cut2 {α:Type}(R:List α)(i:Nat)(h:i + 2≤R.length):∃ R1 a b R2,R=R1 ++ a :: b :: R2/\R1.length=i:=by
 refine ⟨R.take i,R[i],R[i + 1],R.drop (i + 2),?_,by rw [List.length_take]; omega⟩
 rw [<- List.drop_eq_getElem_cons (by omega),<- List.drop_eq_getElem_cons (by omega),List.take_append_drop]
theorem qkg (t:Nat)(R:List Rn)(h:R≠[])(f:Nat × Nat × Nat->Nat × Nat × Nat)(pw:Nat)(hf:∀ a b d,f (a,b,d)=(a,b,pw)):∃ R',(pend t R).toArray.modify ((pend t R).toArray.size - 1) f=(pend t R').toArray/\flat R'=flat R/\(∀ c,Gd c R->Gd c R'):=by
 obtain ⟨S,⟨l,x⟩,rfl⟩:∃ S a,R=S ++ [a]:=⟨R.dropLast,R.getLast h,(List.dropLast_concat_getLast h).symm⟩
 refine ⟨S ++ [(l,pw)],?_,by simp [flat],fun c g=>?_⟩
 ·apply Array.toList_inj.mp
  rw [qa0,qa0]
  have e:∀ y,pend (t + (flat S).length) [(l,y)]=[(t + (flat S).length,l.length,y)]:=fun y=>rfl
  rw [e,e]
  have k:=qaZ t S
  rw [Array.toList_modify]
  have z:(pend t S ++ [(t + (flat S).length,l.length,x)]).toArray.size - 1=(pend t S).length:=by simp
  rw [z]
  show (pend t S ++ [(t + (flat S).length,l.length,x)]).modify (pend t S).length f=pend t S ++ [(t + (flat S).length,l.length,pw)]
  generalize pend t S=X
  induction X with
  | nil=>simp [hf]
  | cons a X ih=>simpa using ih
 ·have h1:=g.right.up (l,x) (by simp)
  exact g.left.app (Gd.one h1.1 h1.2)
theorem qlY {P:Nat->Prop}{c:Prop}[Decidable c]{a b:Nat}(h:∀ i,(i=a\/i=b)->P i):P (if c then a else b):=by
 split
 ·exact h _ (.inl rfl)
 ·exact h _ (.inr rfl)
theorem qkS {n:Nat}{l:List Nat}(h:l.Perm (List.range n)):Of n l.toArray:=by
 unfold Of
 exact ⟨h⟩
theorem qnd {n:Nat}{p:Array Nat}(h:Of n p):p.toList.Perm (List.range n):=h.toList
theorem qcy {p:Array Nat}{i:Nat}(h:i < p.toList.length):at' p i=p.toList[i]:=by
 unfold at'
 rw [Array.getD_eq_getD_getElem?]
 rw [getElem?_pos p i (by simpa using h)]
 simp
theorem qhA {p q:Array Nat}{n lo:Nat}(hp:p.size=n)(hq:q.size=n)(hlo:lo≤n)(h:∀ i,i < lo->at' p i=at' q i):p.toList.take lo=q.toList.take lo:=by
 refine List.ext_getElem (by simp; omega) fun i h1 h2=>?_
 rw [List.length_take] at h1 h2
 rw [List.getElem_take,List.getElem_take,<- qcy (by omega),<- qcy (by omega)]
 exact h i (by omega)
theorem qnc {c:Nat->Nat->Bool}{p:Array Nat}{n lo m:Nat}(hp:p.size=n)(hm:lo + m≤n)(u:UpO c p lo m):Asc c ((p.toList.drop lo).take m):=by
 rw [Asc,List.pairwise_iff_getElem]
 intro i j h1 h2 hij
 rw [List.length_take,List.length_drop] at h1 h2
 rw [List.getElem_take,List.getElem_take,List.getElem_drop,List.getElem_drop,<- qcy (by simp; omega),<- qcy (by simp; omega)]
 exact u _ _ (by omega) (by omega) (by omega)
section
variable {prog:Program}{w:World}{A:Around}{E:Value->Shared->Prop}{s:Shared}
theorem qjr {c:Nat->Nat->Bool}{kv:Nat->Keyed}{κ:SortKind}{n:Nat}(C:Cmp prog w A E s c kv κ n)(h2:2≤n){g0:Nat}{Q:Unit->SortSt->Prop}
  (h:∀ (l:List Nat) pd g,l.Perm (List.range n)->Asc c l->Q () (SS κ (kvs kv l) pd g)):wpS (model prog w) A E s sortRuns' Q (SS κ (kvs kv (List.range n)) #[] g0):=by
 rw [sortRuns'_eq]
 refine wpS_bind (wpS_get ?_)
 dsimp only
 have sz:(arrOf (SS κ (kvs kv (List.range n)) #[] g0)).size=n:=by show (kvs kv (List.range n)).size=n; simp
 rw [sz]
 generalize minRun' n n 0=mr
 refine wpS_bind (wpS_mono (wpS_forRange
  (I:=fun k z st'=>∃ R rest g,z=(none,(flat R).length)/\st'=SS κ (kvs kv (flat R ++ rest)) (pend 0 R).toArray g/\(flat R ++ rest).Perm (List.range n)/\Gd c R/\(n≤(flat R).length\/k≤(flat R).length))
  (Q:=fun z st'=>∃ R g,z=(none,n)/\st'=SS κ (kvs kv (flat R)) (pend 0 R).toArray g/\(flat R).Perm (List.range n)/\Gd c R) ?step ?fin ⟨[],List.range n,g0,rfl,rfl,List.Perm.refl _,⟨fun _ q=>absurd q (by simp)⟩,.inr (Nat.zero_le _)⟩) ?post)
 case fin =>
  rintro z st' ⟨R,rest,g,rfl,rfl,pm,gd,k⟩
  have hl:=pm.length_eq
  rw [List.length_append,List.length_range] at hl
  have:rest=[]:=List.length_eq_zero_iff.mp (by omega)
  subst this
  rw [List.append_nil] at pm ⊢
  exact ⟨R,g,by rw [show (flat R).length=n by simp at hl; omega],rfl,pm,gd⟩
 case step =>
  rintro k z st' _ hk ⟨R,rest,g,rfl,rfl,pm,gd,kk⟩
  have hl:=pm.length_eq
  rw [List.length_append,List.length_range] at hl
  dsimp only
  by_cases e:(flat R).length ≥ n
  ·rw [if_pos e]
   have:rest=[]:=List.length_eq_zero_iff.mp (by omega)
   subst this
   rw [List.append_nil] at pm ⊢
   exact wpS_pure ⟨R,g,by rw [show (flat R).length=n by simp at hl; omega],rfl,pm,gd⟩
  ·rw [if_neg e]
   have ez:kvs kv (flat R ++ rest)=(flat R ++ rest).toArray.map kv:=by simp [kvs]
   have hp:=qkS pm
   rw [ez]
   have key:∀ (m:Nat) (p':Array Nat) (g:Nat),1≤m->(flat R).length + m≤n->Of n p'->UpO c p' (flat R).length m->(∀ i,i < (flat R).length->at' p' i=at' (flat R ++ rest).toArray i) ->
     ∃ l rest',l.length=m/\p'.map kv=kvs kv (flat R ++ (l ++ rest'))/\(flat R ++ (l ++ rest')).Perm (List.range n)/\Asc c l:=by
    intro m p' g m1 mn o' u' sm
    have es:=qhA (n:=n) o'.size hp.size (by omega) sm
    have et:p'.toList=flat R ++ ((p'.toList.drop (flat R).length).take m ++ (p'.toList.drop (flat R).length).drop m):=by
     rw [List.take_append_drop]
     conv=>lhs; rw [<- List.take_append_drop (flat R).length p'.toList]
     rw [es]
     simp
    refine ⟨(p'.toList.drop (flat R).length).take m,(p'.toList.drop (flat R).length).drop m,?_,?_,?_,qnc o'.size (by omega) u'⟩
    ·have:=o'.size
     simp
     omega
    ·rw [<- et]
     apply Array.toList_inj.mp
     simp
    ·rw [<- et]
     exact qnd o'
   refine wpS_bind (qho C hp (by omega) (by omega) fun r p' r1 r2 o' u' sm=>?_)
   dsimp only
   rcases Nat.lt_or_ge r mr with hlt | hlt
   rw [if_pos hlt]
   refine wpS_bind (wpS_lift (wpAny_rule ⟨rfl,?_⟩))
   refine wpS_bind (qgQ C o' (by omega) (by omega) u' fun p2 o2 u2 sm2=>?_)
   simp only [Bool.not_true,Bool.false_eq_true,if_false]
   obtain ⟨m,em⟩:∃ m,m=min (n - (flat R).length) mr:=⟨_,rfl⟩
   rw [<- em] at u2 ⊢
   have m1:1≤m:=by omega
   have m2:(flat R).length + m≤n:=by omega
   replace sm2:∀ i,i < (flat R).length->at' p2 i=at' (flat R ++ rest).toArray i:=fun i hi=>(sm2 i hi).trans (sm i hi)
   clear em sm u' o' hlt r1 r2
   rotate_left
   rw [if_neg (by omega)]
   obtain ⟨m,rfl⟩:∃ m,m=r:=⟨_,rfl⟩
   obtain ⟨p2,rfl⟩:∃ p2,p2=p':=⟨_,rfl⟩
   have m1:=r1
   have m2:(flat R).length + m≤n:=by omega
   have o2:=o'
   have u2:=u'
   have sm2:=sm
   clear sm u' o' hlt r1 r2
   all_goals
    obtain ⟨l,rest',hlm,ep,pm',asl⟩:=key m p2 g m1 m2 o2 u2 sm2
    rw [ep]
    have push:∀ (R':List Rn) (g':Nat),(flat R').Perm (flat R)->Gd c R'->wpS (model prog w) A E s (do
      modify fun s=>setPending s ((pendingOf s).push ((flat R).length,m,0))
      pure (ForInStep.yield (none,(flat R).length + m)):StateT SortSt Sem (ForInStep (Option Unit × Nat))) (fun r st'=>match r with
      | ForInStep.done c'=>∃ R g,c'=(none,n)/\st'=SS κ (kvs kv (flat R)) (pend 0 R).toArray g/\(flat R).Perm (List.range n)/\Gd c R
      | ForInStep.yield c'=>∃ R rest g,c'=(none,(flat R).length)/\st'=SS κ (kvs kv (flat R ++ rest)) (pend 0 R).toArray g/\(flat R ++ rest).Perm (List.range n)/\Gd c R/\(n≤(flat R).length\/k + 1≤(flat R).length)) (SS κ (kvs kv (flat R' ++ (l ++ rest'))) (pend 0 R').toArray g'):=by
     intro R' g' pr gr
     refine wpS_bind (wpS_modify (wpS_pure ⟨R' ++ [(l,0)],rest',g',?_,?_,?_,gr.app (Gd.one asl (by omega)),?_⟩))
     ·rw [qbX,qbW,List.length_append,pr.length_eq,hlm]
     ·show SS κ (kvs kv (flat R' ++ (l ++ rest'))) ((pend 0 R').toArray.push ((flat R).length,m,0)) g'=_
      rw [qbX,qbW,qa0,List.append_assoc]
      congr 1
      apply Array.toList_inj.mp
      rw [Nat.zero_add,pr.length_eq]
      rw [Array.toList_push,<- hlm]
      rfl
     ·rw [qbX,qbW,List.append_assoc]
      exact (List.Perm.append_right _ pr).trans pm'
     ·rw [qbX,qbW,List.length_append,pr.length_eq,hlm]
      omega
    refine wpS_bind (wpS_get ?_)
    have ep:pendingOf (SS κ (kvs kv (flat R ++ (l ++ rest'))) (pend 0 R).toArray g)=(pend 0 R).toArray:=rfl
    rw [ep]
    by_cases hR:R=[]
    ·have:(pend 0 R).toArray.back?=none:=by rw [hR]; rfl
     rw [this]
     exact push R g (List.Perm.refl _) gd
    ·obtain ⟨⟨s1,n1,x1⟩,eb⟩:∃ b,(pend 0 R).toArray.back?=some b:=by
      obtain ⟨S,⟨l1,x⟩,rfl⟩:∃ S a,R=S ++ [a]:=⟨R.dropLast,R.getLast hR,(List.dropLast_concat_getLast hR).symm⟩
      rw [qa0]
      exact ⟨_,by simp [pend]; rfl⟩
     rw [eb]
     dsimp only
     generalize power' n (2 * s1 + n1) (2 * s1 + n1 + n1 + m) n=pw
     refine wpS_bind (wpS_mono (wpS_forRange
      (I:=fun _ z st'=>∃ R' g',z=(none,())/\st'=SS κ (kvs kv (flat R' ++ (l ++ rest'))) (pend 0 R').toArray g'/\(flat R').Perm (flat R)/\Gd c R'/\R'≠[])
      (Q:=fun z st'=>∃ R' g',z=(none,())/\st'=SS κ (kvs kv (flat R' ++ (l ++ rest'))) (pend 0 R').toArray g'/\(flat R').Perm (flat R)/\Gd c R'/\R'≠[]) ?_ (fun _ _ z=>z) ⟨R,g,rfl,rfl,List.Perm.refl _,gd,hR⟩) ?_)
     ·rintro x z st' _ _ ⟨R',g',rfl,rfl,pr,gr,ne⟩
      refine wpS_bind (wpS_get ?_)
      have ep':pendingOf (SS κ (kvs kv (flat R' ++ (l ++ rest'))) (pend 0 R').toArray g')=(pend 0 R').toArray:=rfl
      rw [ep']
      have es:(pend 0 R').toArray.size=R'.length:=by rw [List.size_toArray,qaZ]
      rw [es]
      by_cases e2:R'.length > 1
      ·rw [if_pos e2]
       obtain ⟨R1,⟨la,w1⟩,⟨lb,w2⟩,R2,rfl,hi⟩:=cut2 R' (R'.length - 2) (by omega)
       have:R2=[]:=List.length_eq_zero_iff.mp (by simp at hi; omega)
       subst this
       obtain ⟨b,eb2⟩:∃ b,(pend 0 (R1 ++ [(la,w1),(lb,w2)])).toArray[(R1 ++ [(la,w1),(lb,w2)]).length - 2]?=some b:=⟨_,getElem?_pos _ _ (by simp [qaZ])⟩
       rw [eb2]
       obtain ⟨b1,b2,older⟩:=b
       dsimp only
       by_cases e3:older≤pw
       ·rw [if_pos e3]
        exact wpS_pure ⟨_,g',rfl,rfl,pr,gr,ne⟩
       ·rw [if_neg e3]
        have i1:=gr.right.up (la,w1) (by simp)
        have i2:=gr.right.up (lb,w2) (by simp)
        rw [<- hi]
        have ef:flat (R1 ++ [(la,w1),(lb,w2)]) ++ (l ++ rest')=flat R1 ++ la ++ lb ++ flat [] ++ (l ++ rest'):=by simp [flat]
        rw [ef]
        refine wpS_bind (qcV C (R2:=[]) (rest:=l ++ rest') ?_ i1.1 i2.1 i1.2 i2.2 fun l' g2 pl al=>?_)
        ·rw [<- ef]
         exact (List.Perm.append_right _ pr).trans pm'
        ·simp only [Bool.not_true,Bool.false_eq_true,if_false]
         refine wpS_pure ⟨R1 ++ [(l',w1)],g2,rfl,?_,?_,gr.left.app (Gd.one al (by have:=pl.length_eq; simp at this; have:=i1.2; simp at this; omega)),by simp⟩
         ·congr 1
          simp [flat]
         ·refine List.Perm.trans ?_ pr
          rw [qbX,qbX,qbW,qko]
          refine List.Perm.append_left _ ?_
          simpa [flat] using pl
      ·rw [if_neg e2]
       exact wpS_pure ⟨_,g',rfl,rfl,pr,gr,ne⟩
     ·rintro z st' ⟨R',g',rfl,rfl,pr,gr,ne⟩
      dsimp only
      obtain ⟨R3,em,ef,gg⟩:=qkg 0 R' ne (fun x=>(x.fst,x.2.fst,pw)) pw (fun _ _ _=>rfl)
      refine wpS_bind (wpS_modify ?_)
      show wpS _ _ _ _ _ _ (SS κ (kvs kv (flat R' ++ (l ++ rest'))) ((pend 0 R').toArray.modify ((pend 0 R').toArray.size - 1) fun x=>(x.fst,x.2.fst,pw)) g')
      rw [em,<- ef]
      exact push R3 g' (by rw [ef]; exact pr) (gg c gr)
 case post =>
  rintro z st' ⟨R,g,rfl,rfl,pm,gd⟩
  dsimp only
  have hl:=pm.length_eq
  rw [List.length_range] at hl
  have hR:R≠[]:=fun z=>by subst z; simp [flat] at hl; omega
  refine wpS_bind (wpS_mono (wpS_forRange
   (I:=fun k z st'=>∃ R g,z=(none,())/\st'=SS κ (kvs kv (flat R)) (pend 0 R).toArray g/\(flat R).Perm (List.range n)/\Gd c R/\R≠[]/\(R.length≤1\/R.length + k≤n))
   (Q:=fun z st'=>∃ R g,z=(none,())/\st'=SS κ (kvs kv (flat R)) (pend 0 R).toArray g/\(flat R).Perm (List.range n)/\Gd c R/\R≠[]/\R.length≤1) ?_ ?_ ⟨R,g,rfl,rfl,pm,gd,hR,.inr (by have:=qk3 gd; omega)⟩) ?_)
  ·rintro k z st' _ hk ⟨R,g,rfl,rfl,pm,gd,hR,hk2⟩
   refine wpS_bind (wpS_get ?_)
   have ep':pendingOf (SS κ (kvs kv (flat R)) (pend 0 R).toArray g)=(pend 0 R).toArray:=rfl
   rw [ep']
   have es:(pend 0 R).toArray.size=R.length:=by rw [List.size_toArray,qaZ]
   rw [es]
   by_cases e1:R.length≤1
   ·rw [if_pos e1]
    exact wpS_pure ⟨R,g,rfl,rfl,pm,gd,hR,e1⟩
   ·rw [if_neg e1]
    refine wpS_bind (qlY (P:=fun i=>wpS _ _ _ _ (mergeAt' i) _ _) fun i hi0=>?_)
    have hi:i + 2≤R.length:=by omega
    obtain ⟨R1,⟨la,w1⟩,⟨lb,w2⟩,R2,rfl,hi2⟩:=cut2 R i hi
    have i1:=gd.right.up (la,w1) (by simp)
    have i2:=gd.right.up (lb,w2) (by simp)
    have ef:flat (R1 ++ (la,w1) :: (lb,w2) :: R2)=flat R1 ++ la ++ lb ++ flat R2 ++ []:=by simp [flat]
    rw [ef,<- hi2]
    refine (qcV C (rest:=[]) ?_ i1.1 i2.1 i1.2 i2.2 fun l' g2 pl al=>?_)
    ·rw [<- ef]; exact pm
    ·simp only [Bool.not_true,Bool.false_eq_true,if_false]
     have ef':flat (R1 ++ (l',w1) :: R2)=flat R1 ++ l' ++ flat R2 ++ []:=by simp [flat]
     refine wpS_pure ⟨R1 ++ (l',w1) :: R2,g2,rfl,?_,?_,?_,by simp,.inr ?_⟩
     ·rw [ef']
     ·refine List.Perm.trans ?_ pm
      rw [ef,ef']
      simp only [List.append_nil,List.append_assoc]
      refine List.Perm.append_left _ ?_
      rw [<- List.append_assoc]
      exact List.Perm.append_right _ pl
     ·refine gd.left.app ((Gd.one (x:=w1) al (by have:=pl.length_eq; simp at this; have:=i1.2; simp at this; omega)).app (R:=[(l',w1)]) (S:=R2) ⟨fun r hr=>gd.right.up r (by simp [hr])⟩)
     ·simp at hk2 e1 ⊢
      omega
  ·rintro z st' ⟨R,g,rfl,rfl,pm,gd,hR,hk2⟩
   exact ⟨R,g,rfl,rfl,pm,gd,hR,by omega⟩
  ·rintro z st' ⟨R,g,rfl,rfl,pm,gd,hR,h1⟩
   dsimp only
   obtain ⟨⟨l,x⟩,rfl⟩:∃ r,R=[r]:=by
    match R,hR,h1 with
    | [r],_,_=>exact ⟨r,rfl⟩
   rw [qbW] at pm ⊢
   exact wpS_pure (h l _ g pm (gd.up (l,x) (by simp)).1)
end
section
variable {prog:Program}{w:World}{A:Around}{E:Value->Shared->Prop}{s:Shared}
def Kept (a:Addr)(h h':Heap):Prop:=∀ b o,b≠a->h.get? b=some o->h'.get? b=some o
structure Asks (prog:Program)(w:World)(A:Around)(vs:List Value)(c:Nat->Nat->Bool)(κ:SortKind)(s:Shared):Prop where
 kind:∀ (E:Value->Shared->Prop) (Q:SortKind->Shared->Prop),Q κ s->wpAny (model prog w) A (keyKind' vs.toArray) Q E s
 less:∀ i j,In vs.length i j->∀ (Q:Bool->Shared->Prop),Q (c i j) s->wpAny (model prog w) A (keyLt' κ (vs.getD i Value.none) (vs.getD j Value.none)) Q (fun _ _=>False) s
abbrev qeK (vs:List Value)(p:Array Nat):Array Value:=List.toArray (p.toList.map fun i=>vs.getD i Value.none)
theorem range_getD (vs:List Value):((List.range vs.length).map fun i=>vs.getD i Value.none)=vs:=by
 refine List.ext_getElem (by simp) fun i h1 h2=>?_
 simp at h1
 simp [h1]
theorem qjC {vs:List Value}{c:Nat->Nat->Bool}(O:Ord c){κ:SortKind}(h2:2≤vs.length)
  (less:∀ i j,In vs.length i j->∀ (Q:Bool->Shared->Prop),Q (c i j) s->wpAny (model prog w) A (keyLt' κ (vs.getD i Value.none) (vs.getD j Value.none)) Q (fun _ _=>False) s) :
  wpAny (model prog w) A ((sortRuns').run (SortSt.mk' κ (vs.toArray.zip vs.toArray) #[] 7 none)) (fun r s'=>s'=s/\failedOf r.2=none/\∃ p,Of vs.length p/\Up c p vs.length/\(arrOf r.2).map (·.2)=qeK vs p) E s:=by
 have C:Cmp prog w A E s c (fun i=>(vs.getD i Value.none,vs.getD i Value.none)) κ vs.length:=⟨O,fun x y hi st hk Q hQ=>by
  rw [lt'_eq]
  refine wpS_bind (wpS_get ?_)
  rw [hk]
  refine wpS_bind (wpS_lift (wpAny_attempt (wpAny_mono (less x y hi (fun b s'=>s'=s/\b=c x y) ⟨rfl,rfl⟩) (fun b s' z=>?_) fun _ _ z=>z.elim)))
  obtain ⟨rfl,rfl⟩:=z
  exact ⟨rfl,wpS_pure hQ⟩⟩
 have e0:vs.toArray.zip vs.toArray=kvs (fun i=>(vs.getD i Value.none,vs.getD i Value.none)) (List.range vs.length):=by
  apply Array.toList_inj.mp
  rw [Array.toList_zip]
  refine List.ext_getElem (by simp) fun i h1 h2=>?_
  simp at h1
  simp [h1]
 rw [e0]
 refine qjr (Q:=fun _ st'=>failedOf st'=none/\∃ p,Of vs.length p/\Up c p vs.length/\(arrOf st').map (·.2)=qeK vs p) C h2 fun l pd g pm as=>⟨rfl,l.toArray,qkS pm,fun i j hij hj=>?_,?_⟩
 ·have hl:=pm.length_eq
  rw [List.length_range] at hl
  rw [qcy (p:=l.toArray) (show i < l.length by omega),qcy (p:=l.toArray) (show j < l.length by omega)]
  exact qb1 O as hij (by omega)
 ·apply Array.toList_inj.mp
  show (Array.map (·.2) (kvs _ l)).toList=_
  rw [Array.toList_map]
  simp
theorem qeP {a:Addr}{vs:List Value}{n:Nat}{P:PySem.Fin->Shared->Prop}{c:Nat->Nat->Bool}(O:Ord c){κ:SortKind}(at0:s.heap.get? a=some (seqObj "list" vs.toArray n))(few:vs.length < 65536)
  (ak:2≤vs.length->∀ h':Heap,Kept a s.heap h'->Asks prog w A vs c κ { s with heap:=h' })
  (fin:∀ p:Array Nat,Of vs.length p->Up c p vs.length->P (.done (.ret .none)) { s with heap:=sortedHeap s.heap a vs (qeK vs p) }):wpAny (model prog w) A (Builtin.«list.sort» ⟨[.ref a],[]⟩) P E s:=by
 rw [list_sort_plain]
 have la:a < s.heap.objs.size:=Heap.lt_size at0
 refine wpAny_bind (listItems_at at0 rfl (wpAny_bind (listUpdate_at at0 rfl ?_ (by rw [List.size_toArray,sizeLine_eq]; omega) (Nat.zero_le _))))
 obtain ⟨e1,at1⟩:∃ e1,(s.heap.update a (Obj.mapSeq fun _=>(#[]:Array Value))).get? a=some (seqObj "list" #[] e1):=⟨_,get?_update_seq at0 fun _=>#[]⟩
 refine wpAny_bind (seqEpoch_at at1 rfl (wpAny_bind (wpAny_newTuple (wpAny_bind (wpAny_newList (wpAny_holding ?_))) (by rw [sizeLine_eq]; simp; omega))))
 have at2:(((s.heap.update a (Obj.mapSeq fun _=>(#[]:Array Value))).push (seqObj "tuple" vs.toArray 0)).push (seqObj "list" #[] 0)).get? a=some (seqObj "list" #[] e1):=Heap.get?_push_of_some _ (Heap.get?_push_of_some _ at1)
 have kp:Kept a s.heap (((s.heap.update a (Obj.mapSeq fun _=>(#[]:Array Value))).push (seqObj "tuple" vs.toArray 0)).push (seqObj "list" #[] 0)):=fun b o nb e =>
  Heap.get?_push_of_some _ (Heap.get?_push_of_some _ ((Heap.get?_update_ne _ _ _ _ nb).trans e))
 show wpAny (model prog w) A _ P E { s with heap:=((s.heap.update a (Obj.mapSeq fun _=>(#[]:Array Value))).push (seqObj "tuple" vs.toArray 0)).push (seqObj "list" #[] 0) }
 dsimp only
 have zz:vs.toArray.size=vs.length:=by simp
 by_cases few2:vs.toArray.size < 2
 ·rw [if_pos few2,if_pos few2]
  refine wpAny_bind (wpAny_pure ?_)
  rw [StateT.run_pure]
  refine wpAny_bind (wpAny_pure (wpAny_bind (seqEpoch_at at2 rfl (wpAny_bind (listUpdate_at at2 rfl ?_ (by simp) (by show (Array.map _ (vs.toArray.zip vs.toArray)).size≤_; simp; rw [sizeLine_eq]; omega))))))
  simp only [bne_self_eq_false,Bool.false_eq_true,if_false]
  have eo:qeK vs (List.toArray (List.range vs.length))=Array.map (·.2) (vs.toArray.zip vs.toArray):=by
   apply Array.toList_inj.mp
   show (List.range vs.length).map _=_
   rw [range_getD,Array.toList_map]
   simp only [Array.toList_zip]
   exact (List.map_snd_zip (Nat.le_refl _)).symm
  have:=fin (List.toArray (List.range vs.length)) (Array.Perm.refl _) (fun i j x y=>by
   have:i=j:=by omega
   subst this; exact O.irr _)
  rw [eo] at this
  exact wpAny_pure this
 ·rw [if_neg few2,if_neg few2]
  have K:=ak (by omega) _ kp
  refine wpAny_bind (K.kind _ _ ?_)
  refine wpAny_bind (wpAny_mono (qjC O (by omega) K.less) ?_ fun _ _ e=>e)
  ·rintro ⟨⟨⟩,st'⟩ s' ⟨rfl,hf,p,o1,o2,eo⟩
   dsimp only
   refine wpAny_bind (seqEpoch_at at2 rfl (wpAny_bind (listUpdate_at at2 rfl ?_ (by simp) (by rw [eo]; show (qeK vs p).size≤_; simp; rw [o1.size,sizeLine_eq]; omega))))
   rw [hf]
   simp only [bne_self_eq_false,Bool.false_eq_true,if_false]
   have:=fin p o1 o2
   rw [<- eo] at this
   exact wpAny_pure this
end
section
variable {prog:Program}{w:World}{A:Around}{E:Value->Shared->Prop}{s:Shared}
def Told (prog:Program)(w:World)(A:Around)(Q:Value->Shared->Prop)(vs:List Value)(s1:Shared):Prop :=
 vs.length < 65536/\∃ c κ,Ord c/\(2≤vs.length->∀ h':Heap,(∀ b o,s1.heap.get? b=some o->h'.get? b=some o)->Asks prog w A vs c κ { s1 with heap:=h' }) /\
  ∀ p e (h':Heap),Of vs.length p->Up c p vs.length->(∀ b o,s1.heap.get? b=some o->h'.get? b=some o)->h'.get? s1.heap.objs.size=some (seqObj "list" (qeK vs p) e)->Q (.ref s1.heap.objs.size) { s1 with heap:=h' }
theorem qhP {x:Value}{Q:Value->Shared->Prop}(col:wpAny (model prog w) A.in1 (collect x) (Told prog w A.in1.in1 Q) E s):wpAny (model prog w) A (call (.builtin "sorted") [x]) Q E s:=by
 refine Calls.call_function_entry kind_sorted plain_sorted entry_sorted (args_sorted1 _) ?_
 unfold Builtin.«sorted»
 refine wpAny_bind (m:=checkCount "sorted" 1 1 _) (wpAny_pure (wpAny_bind (wpAny_mono col (fun vs s1 told=>?_) fun _ _ e=>e)))
 obtain ⟨few,c,κ,O,ak,fin⟩:=told
 refine wpAny_bind (wpAny_newList ?_ (by rw [sizeLine_eq]; omega))
 have at0:(s1.heap.push (seqObj "list" vs.toArray 0)).get? s1.heap.objs.size=some (seqObj "list" vs.toArray 0):=Heap.get?_push_size _ rfl
 refine wpAny_bind (wpAny_holding (wpAny_call_entry slot_list_sort ⟨_,at0,rfl⟩ entry_list_sort (qeP (s:={ s1 with heap:=s1.heap.push (seqObj "list" vs.toArray 0) }) O at0 few (fun h2 h' kp=>ak h2 h' fun b o e=>kp b o (Nat.ne_of_lt (Heap.lt_size e)) (Heap.get?_push_of_some _ e)) fun p o1 o2=>⟨_,rfl,wpAny_pure ⟨_,rfl,?_⟩⟩) (args_list_sort _)))
 obtain ⟨e,he⟩:=sortedHeap_at (out:=qeK vs p) at0
 refine fin p e _ o1 o2 (fun b o q=>?_) he
 have lt:=Heap.lt_size q
 rw [sortedHeap_old (Nat.ne_of_lt lt) (by show b < (s1.heap.push _).objs.size; rw [size_push']; exact Nat.lt_succ_of_lt lt)]
 exact Heap.get?_push_of_some _ q
end
end Srt
namespace DI
open PySem PySem.W PyProof.Rows
def DEnt (h:Heap)(d:Addr)(es:Array DictEntry)(ep:Nat):Prop:=∃ o,h.get? d=some o/\o.ExactDict/\o.data = .dict es ep
theorem DEnt.ty {s:Shared}{d:Addr}{es:Array DictEntry}{ep:Nat}(x:DEnt s.heap d es ep):s.TypeIs (.ref d) "dict" := let ⟨o,e,c,_⟩:=x; ⟨o,e,c.1⟩
theorem DEnt.at {h h':Heap}{d:Addr}{es:Array DictEntry}{ep:Nat}(x:DEnt h d es ep)(k:∀ o,h.get? d=some o->h'.get? d=some o):DEnt h' d es ep:=let ⟨o,e,c⟩:=x; ⟨o,k o e,c⟩
section
variable {prog:Program}{w:World}{A:Around}{E:Value->Shared->Prop}{s:Shared}{it d:Addr}{es:Array DictEntry}{i ep:Nat}
theorem qdy (hd:(d == sysModules)=false):MeetsIn prog w (Builtin.«dict.items» ⟨[.ref d],[]⟩) (fun _ R s=>(∃ es ep,DEnt s.heap d es ep)/\R (.ok (.ret (.ref s.heap.objs.size))) { s with heap:=s.heap.push { cls := .type "dict_items",data := .fields #[.ref d] } }) :=
 .of_wp fun A R s ⟨⟨es,ep,de⟩,h⟩=>by
  unfold Builtin.«dict.items» Builtin.Dict.noArgs
  refine wpAny_bind (wpAny_bind (wpAny_notOrdered_dict de.ty ?_))
  show wpAny _ _ (pure d) _ _ s
  refine wpAny_pure ?_
  show wpAny _ _ (Builtin.Dict.showsAll d >>= _) _ _ s
  unfold Builtin.Dict.showsAll
  rw [if_neg (by rw [hd]; exact Bool.false_ne_true)]
  exact wpAny_bind (wpAny_pure (wpAny_bind (wpAny_newObj_type (wpAny_pure ⟨_,rfl,h⟩))))
theorem qeX {v:Addr}{Q:Value->Shared->Prop}(vw:s.heap.IsItemsView v d)(de:DEnt s.heap d es ep)(fin:∀ h',IsItemIter h' s.heap.objs.size d 0 es.size ep .none .none->(∀ b o,s.heap.get? b=some o->h'.get? b=some o)->Q (.ref s.heap.objs.size) { s with heap:=h' }):wpAny (model prog w) A (pyIter (.ref v)) Q E s:=by
 obtain ⟨ov,gv,cv,fv⟩:=id vw
 obtain ⟨od,gd,xd,dd⟩:=id de
 refine wpAny_pyIter_slot vw.typeIs F.slot_dict_items_iter (wpAny_call_entry F.slot_dict_items_iter vw.typeIs F.entry_dict_items_iter ?_ (F.args_dict_items_iter_1 _))
 unfold Builtin.«dict_items.__iter__» Builtin.Dict_items.dictOf Builtin.Dict_items.newIterator
 refine wpAny_bind (wpAny_pure (wpAny_bind (wpAny_bind (wpAny_field gv fv (x := .ref d) rfl (wpAny_pure (wpAny_bind (wpAny_bind (wpAny_dictEntries gd dd (wpAny_bind (wpAny_dictEpoch gd dd ?_))))))))))
 simp only [show Builtin.Dict_items.ownsTuple "dict_itemiterator" = true by decide,if_true]
 refine wpAny_newObj_type (wpAny_pure ⟨_,rfl, "dict_itemiterator",_,⟨_,Heap.get?_push_size _ rfl,rfl⟩,F.slot_dict_itemiterator_next.lookup,fin _ ?_ fun b o e=>Heap.get?_push_of_some _ e⟩) (by simp only [sizeOk,Builtin.Dict_items.ownedTupleFields,List.size_toArray,List.length_append,List.length_cons,List.length_nil,sizeLine_eq]; omega)
 exact Heap.get?_push_size _ rfl
def ItAt (h:Heap)(it d:Addr)(i n ep:Nat):Prop:=∃ f0 f1 ok ov,h.get? it=some { cls := .type "dict_itemiterator",dict:=none,data := .fields #[f0,f1,.ref d,.int i 0,.int n 0,.int ep 0,ok,ov],slots:=#[] }/\(f0 = .none\/∃ a,f0 = .int a 0)
theorem ItAt.ty {s:Shared}{it d:Addr}{i n ep:Nat}(x:ItAt s.heap it d i n ep):s.TypeIs (.ref it) "dict_itemiterator" := let ⟨_,_,_,_,e,_⟩:=x; ⟨_,e,rfl⟩
theorem ItAt.at {h h':Heap}{it d:Addr}{i n ep:Nat}(x:ItAt h it d i n ep)(k:∀ o,h.get? it=some o->h'.get? it=some o):ItAt h' it d i n ep:=let ⟨a,b,c,e,q,r⟩:=x; ⟨a,b,c,e,k _ q,r⟩
theorem qlZ {i n:Nat}{Q:Bool->Shared->Prop}(ii:ItAt s.heap it d i n ep)(fin:∀ b h',ItAt h' it d i n ep->Heap.SameBut it s.heap h'->Q b { s with heap:=h' }):wpAny (model prog w) A (Builtin.Dict_items.ownedTupleIsFree (.ref it)) Q E s:=by
 obtain ⟨f0,f1,ok,ov,gi,c0⟩:=ii
 have same:Heap.SameBut it s.heap s.heap:=⟨rfl,fun _ _=>rfl⟩
 unfold Builtin.Dict_items.ownedTupleIsFree
 refine wpAny_bind (wpAny_field gi rfl (x:=f0) rfl ?_)
 rcases c0 with rfl | ⟨a,rfl⟩
 ·exact wpAny_pure (fin _ _ ⟨_,_,_,_,gi,.inl rfl⟩ same)
 ·show wpAny _ _ (loadIfAlive a.toNat >>= _) _ _ s
  refine wpAny_bind ?_
  have al:∀ {Q:Option Obj->Shared->Prop},Q (s.heap.get? a.toNat) s->wpAny (model prog w) A (loadIfAlive a.toNat) Q E s:=fun hQ _ _ _=>hQ
  refine al ?_
  cases e:s.heap.get? a.toNat with
  | none=>exact wpAny_pure (fin _ _ ⟨_,_,_,_,gi,.inr ⟨a,rfl⟩⟩ same)
  | some o =>
   show wpAny _ _ (field (.ref it) 1 >>= _) _ _ s
   refine wpAny_bind (wpAny_field gi rfl (x:=f1) rfl ?_)
   by_cases e1:(f1 != Value.bool true)=true
   ·rw [if_pos e1]
    exact wpAny_bind (wpAny_setField_rec gi (by simp) fun g1 z1 s1=>wpAny_pure (fin _ g1 ⟨_,_,_,_,z1,.inr ⟨a,rfl⟩⟩ s1))
   ·rw [if_neg e1]
    exact wpAny_pure (fin _ _ ⟨_,_,_,_,gi,.inr ⟨a,rfl⟩⟩ same)
theorem qeY {i n k:Nat}{v:Value}{Q:Unit->Shared->Prop}(ii:ItAt s.heap it d i n ep)(hk:k=1\/k=6\/k=7\/(k=0/\(v = .none\/∃ a,v = .int a 0)))(fin:∀ h',ItAt h' it d i n ep->Heap.SameBut it s.heap h'->Q () { s with heap:=h' }):wpAny (model prog w) A (setField (.ref it) k v) Q E s:=by
 obtain ⟨f0,f1,ok,ov,gi,c0⟩:=ii
 rcases hk with rfl | rfl | rfl | ⟨rfl,hv⟩
 ·exact wpAny_setField_rec gi (by simp) fun g1 z1 s1=>fin g1 ⟨_,_,_,_,z1,c0⟩ s1
 ·exact wpAny_setField_rec gi (by simp) fun g1 z1 s1=>fin g1 ⟨_,_,_,_,z1,c0⟩ s1
 ·exact wpAny_setField_rec gi (by simp) fun g1 z1 s1=>fin g1 ⟨_,_,_,_,z1,c0⟩ s1
 ·exact wpAny_setField_rec gi (by simp) fun g1 z1 s1=>fin g1 ⟨_,_,_,_,z1,hv⟩ s1
theorem qgz {i n k:Nat}{Q:Value->Shared->Prop}(ii:ItAt s.heap it d i n ep)(hk:k=6\/k=7)(fin:∀ v,Q v s):wpAny (model prog w) A (field (.ref it) k) Q E s:=by
 obtain ⟨f0,f1,ok,ov,gi,c0⟩:=ii
 rcases hk with rfl | rfl
 ·exact wpAny_field gi rfl (x:=ok) rfl (fin _)
 ·exact wpAny_field gi rfl (x:=ov) rfl (fin _)
theorem qcP {a:Addr}{h1 h2 h3:Heap}(x:Heap.SameBut a h1 h2)(y:Heap.SameBut a h2 h3):Heap.SameBut a h1 h3:=⟨y.1.trans x.1,fun b hb=>(y.2 b hb).trans (x.2 b hb)⟩
theorem qjU {i n:Nat}{x y:Value}{Q:Value->Shared->Prop}(ii:ItAt s.heap it d i n ep)
  (fin:∀ h',ItAt h' it d i n ep->h'.get? s.heap.objs.size=some { cls := .type "tuple",data := .seq #[x,y] }->h'.objs.size=s.heap.objs.size + 1->(∀ b o,b≠it->s.heap.get? b=some o->h'.get? b=some o)->Q (.ref s.heap.objs.size) { s with heap:=h' }) :
  wpAny (model prog w) A (Builtin.Dict_items.pairFromOwner (.ref it) 6 x y) Q E s:=by
 unfold Builtin.Dict_items.pairFromOwner
 have li:it < s.heap.objs.size:=let ⟨_,_,_,_,e,_⟩:=ii; Heap.lt_size e
 refine wpAny_bind (wpAny_newTuple ?_)
 have i1:ItAt (s.heap.push { cls := .type "tuple",data := .seq #[x,y] }) it d i n ep:=ii.at fun o e=>Heap.get?_push_of_some _ e
 have fin':∀ h',ItAt h' it d i n ep->Heap.SameBut it (s.heap.push { cls := .type "tuple",data := .seq #[x,y] }) h'->Q (.ref s.heap.objs.size) { s with heap:=h' }:=fun h' a b =>
  fin h' a ((b.2 _ (Nat.ne_of_gt li)).trans (Heap.get?_push_size _ rfl)) (by rw [b.1,Heap.size_push]) fun c o hc e=>(b.2 c hc).trans (Heap.get?_push_of_some _ e)
 refine wpAny_bind (qlZ (s:={ s with heap:=s.heap.push { cls := .type "tuple",data := .seq #[x,y] } }) i1 fun b h2 i2 s2=>?_)
 cases b with
 | false=>exact wpAny_pure (fin' h2 i2 s2)
 | true =>
  refine wpAny_bind (qgz (s:={ s with heap:=h2 }) i2 (.inl rfl) fun v1=>wpAny_bind (qgz (s:={ s with heap:=h2 }) i2 (.inr rfl) fun v2=>?_))
  refine wpAny_bind (qeY (s:={ s with heap:=h2 }) i2 (.inr (.inl rfl)) fun h3 i3 s3=>?_)
  refine wpAny_bind (qeY (s:={ s with heap:=h3 }) i3 (.inr (.inr (.inl rfl))) fun h4 i4 s4=>?_)
  refine wpAny_bind (qeY (s:={ s with heap:=h4 }) i4 (.inr (.inr (.inr ⟨rfl,.inr ⟨_,rfl⟩⟩))) fun h5 i5 s5=>?_)
  refine wpAny_bind (qeY (s:={ s with heap:=h5 }) i5 (.inl rfl) fun h6 i6 s6=>?_)
  exact wpAny_bind (wpAny_letGo (wpAny_pure (fin' h6 i6 (qcP s2 (qcP s3 (qcP s4 (qcP s5 s6)))))))
theorem qeW {Q:Option Value->Shared->Prop}(ii:ItAt s.heap it d i es.size ep)(de:DEnt s.heap d es ep)(li:i < es.size)
  (fin:∀ h',ItAt h' it d (i + 1) es.size ep->h'.get? s.heap.objs.size=some { cls := .type "tuple",data := .seq #[es[i].key,es[i].val] }->h'.objs.size=s.heap.objs.size + 1->(∀ b o,b≠it->s.heap.get? b=some o->h'.get? b=some o)->Q (some (.ref s.heap.objs.size)) { s with heap:=h' }) :
  wpAny (model prog w) A (pyNext (.ref it)) Q E s:=by
 have ti:=ii.ty
 obtain ⟨f0,f1,ok,ov,gi,c0⟩:=id ii
 obtain ⟨od,gd,xd,dd⟩:=de
 unfold pyNext
 refine wpAny_bind (wpAny_attempt (wpAny_callSpecial?_slot (name:=Str.ofString "__next__") ti F.slot_dict_itemiterator_next (wpAny_call_entry F.slot_dict_itemiterator_next ti F.entry_dict_itemiterator_next (wpAny_bind (wpAny_pure (wpAny_bind (wpAny_bind ?_)))) (F.args_dict_itemiterator_next_1 _))))
 refine wpAny_bind (wpAny_typeNameOfWhole_itemiter ti (wpAny_pure (wpAny_bind (wpAny_fieldsOf gi rfl ?_))))
 simp only [show Builtin.Dict_items.ownsTuple "dict_itemiterator" = true by decide,if_true]
 show wpAny _ _ (if (Value.ref d == Value.none)=true then _ else _) _ _ s
 rw [if_neg (show ¬ ((Value.ref d == Value.none)=true) from Bool.false_ne_true)]
 refine wpAny_bind (wpAny_pure (wpAny_bind (wpAny_dictEntries gd dd ?_)))
 rw [if_neg (by simp)]
 refine wpAny_bind (wpAny_pure (wpAny_bind (wpAny_dictEpoch gd dd ?_)))
 rw [if_neg (by simp)]
 refine wpAny_pure ?_
 simp only [show ¬ ((i:Int) < 0) from by omega,if_false,Int.toNat_natCast,Array.getElem?_eq_getElem li]
 refine wpAny_bind (wpAny_bind (wpAny_typeNameOfWhole_itemiter ti (wpAny_pure (wpAny_bind (wpAny_isOneOf_itemiter ti ?_)))))
 show wpAny _ _ (setField (.ref it) 3 (rawInt ((i:Int) + 1)) >>= _) _ _ s
 refine wpAny_bind (wpAny_setField_rec gi (by simp) fun h1 z1 s1=>?_)
 have i1:ItAt h1 it d (i + 1) es.size ep:=by
  have e:((i + 1:Nat):Int)=(i:Int) + 1:=by omega
  refine ⟨f0,f1,ok,ov,?_,c0⟩
  rw [e]; simpa [rawInt] using z1
 have t1:Shared.TypeIs { s with heap:=h1 } (.ref it) "dict_itemiterator" := ItAt.ty (s:={ s with heap:=h1 }) i1
 refine wpAny_bind (wpAny_holding (wpAny_bind (wpAny_isOneOf_itemiter t1 (wpAny_bind (wpAny_isOneOf_itemiter t1 ?_)))))
 show wpAny _ _ (Builtin.Dict_items.pairFromOwner (.ref it) 6 es[i].key es[i].val) _ _ { s with heap:=h1 }
 have z1:h1.objs.size=s.heap.objs.size:=s1.1
 refine qjU (s:={ s with heap:=h1 }) i1 fun h2 i2 T2 sz2 k2=>wpAny_pure ⟨_,rfl,wpAny_pure ?_⟩
 have F:=fin h2 i2 (z1 ▸ T2) (z1 ▸ sz2) fun b o hb e=>k2 b o hb ((s1.2 b hb).trans e)
 show Q (some (.ref h1.objs.size)) _
 rw [z1]; exact F
theorem qgy {Q:Option Value->Shared->Prop}(hh:A.handled=none)(ii:ItAt s.heap it d i es.size ep)(de:DEnt s.heap d es ep)(li:es.size≤i)(fin:∀ h',Heap.ExtBut it s.heap h'->Q none { s with heap:=h' }) :
  wpAny (model prog w) A (pyNext (.ref it)) Q E s:=by
 have ti:=ii.ty
 obtain ⟨f0,f1,ok,ov,gi,c0⟩:=id ii
 obtain ⟨od,gd,xd,dd⟩:=de
 unfold pyNext
 refine wpAny_bind (wpAny_attempt (wpAny_callSpecial?_slot (name:=Str.ofString "__next__") ti F.slot_dict_itemiterator_next (wpAny_call_entry F.slot_dict_itemiterator_next ti F.entry_dict_itemiterator_next (wpAny_bind (wpAny_pure (wpAny_bind (wpAny_bind ?_)))) (F.args_dict_itemiterator_next_1 _))))
 refine wpAny_bind (wpAny_typeNameOfWhole_itemiter ti (wpAny_pure (wpAny_bind (wpAny_fieldsOf gi rfl ?_))))
 simp only [show Builtin.Dict_items.ownsTuple "dict_itemiterator" = true by decide,if_true]
 show wpAny _ _ (if (Value.ref d == Value.none)=true then _ else _) _ _ s
 rw [if_neg (show ¬ ((Value.ref d == Value.none)=true) from Bool.false_ne_true)]
 refine wpAny_bind (wpAny_pure (wpAny_bind (wpAny_dictEntries gd dd ?_)))
 rw [if_neg (by simp)]
 refine wpAny_bind (wpAny_pure (wpAny_bind (wpAny_dictEpoch gd dd ?_)))
 rw [if_neg (by simp)]
 refine wpAny_pure ?_
 simp only [show ¬ ((i:Int) < 0) from by omega,if_false,Int.toNat_natCast,Array.getElem?_eq_none li]
 refine wpAny_bind (wpAny_bind (wpAny_typeNameOfWhole_itemiter ti (wpAny_pure ?_)))
 show wpAny _ _ (setField (.ref it) 2 .none >>= _) _ _ s
 refine wpAny_bind (wpAny_setField gi rfl (by simp) ?_)
 show wpAny _ _ (newExc (.type "StopIteration") [] >>= _) _ _ _
 refine wpAny_bind ?_
 simp only [newExc,newTuple]
 refine wpAny_bind (wpAny_newObj_type (wpAny_bind (m:=firstArgMember _ _) (wpAny_of_eq (a:=Value.none) (by first | rfl | (simp only [firstArgMember]; rfl)) (wpAny_newObj_type ?_ (by size_fits)))) (by size_fits))
 simp only [raiseNew]
 refine wpAny_bind (wpAny_handled ?_)
 rw [show A.in1.handled=none from hh]
 refine wpAny_bind (wpAny_pure (wpAny_throw ?_))
 refine wpAny_bind (wpAny_isInstance (T := "StopIteration") (b:=true) ⟨_,Heap.get?_push_size _ rfl,rfl⟩ isSubtype_stop (wpAny_pure (fin _ ?_)))
 exact ((Heap.SameBut.update ..).extBut.push _).push _
theorem qlX {elts:List Expr}{x1:_}{pos:Pos}{i n:Nat}{a:Addr}{Q:Unit->Shared->Prop}(ii:ItAt s.heap it d i n ep)(fin:∀ h',ItAt h' it d i n ep->Heap.SameBut it s.heap h'->Q () { s with heap:=h' }) :
  wpAny (model prog w) A (letOwnedTupleGo (.Tuple elts x1 pos) (.ref it) (.ref a)) Q E s:=by
 obtain ⟨f0,f1,ok,ov,gi,c0⟩:=id ii
 unfold letOwnedTupleGo
 refine wpAny_bind (wpAny_load gi ?_)
 show wpAny _ _ (if (["enumerate", "zip", "dict_itemiterator", "dict_reverseitemiterator", "odict_iterator", "itertools.zip_longest", "itertools.pairwise"].contains "dict_itemiterator" && (#[f0,f1,.ref d,.int i 0,.int n 0,.int ep 0,ok,ov]:Array Value)[0]? == some (rawInt a))=true then _ else _) Q E s
 by_cases hc:(["enumerate", "zip", "dict_itemiterator", "dict_reverseitemiterator", "odict_iterator", "itertools.zip_longest", "itertools.pairwise"].contains "dict_itemiterator" && (#[f0,f1,.ref d,.int i 0,.int n 0,.int ep 0,ok,ov]:Array Value)[0]? == some (rawInt a))=true
 ·rw [if_pos hc]
  refine wpAny_bind (wpAny_rule ?_)
  show wpAny _ _ (setField (.ref it) 0 .none) Q E s
  exact qeY ii (.inr (.inr (.inr ⟨rfl,.inl rfl⟩))) fin
 ·rw [if_neg hc]
  exact wpAny_pure (fin _ ii ⟨rfl,fun _ _=>rfl⟩)
end
section
variable {prog:Program}{w:World}{A:Around}{d r:Addr}{es:Array DictEntry}{ep:Nat}
theorem DEnt.lt {h:Heap}(x:DEnt h d es ep):d < h.objs.size:=let ⟨_,e,_⟩:=x; Heap.lt_size e
end
end DI
namespace L2
open PySem PySem.W PySem.Spec PyProof.Rows DI
def EntT (H:Hp)(kvs:List (List Key × V))(es:Array DictEntry):Prop :=
 Paired (fun (p:List Key × V) (e:DictEntry)=>∃ b,e.key = .ref b/\H b=some (.tup (p.1.map kV))/\RelV p.2 e.val) kvs es.toList
theorem EntT.size {H:Hp}{kvs:List (List Key × V)}{es:Array DictEntry}(h:EntT H kvs es):es.size=kvs.length:=by have:=Paired.length h; simpa using this.symm
theorem EntT.at {H:Hp}{kvs:List (List Key × V)}{es:Array DictEntry}(h:EntT H kvs es){i:Nat}{e:DictEntry}(q:es[i]?=some e):∃ kv b,kvs[i]?=some kv/\e.key = .ref b/\H b=some (.tup (kv.1.map kV))/\RelV kv.2 e.val:=by
 have:∀ {l:List (List Key × V)} {m:List DictEntry},Paired (fun (p:List Key × V) (e:DictEntry)=>∃ b,e.key = .ref b/\H b=some (.tup (p.1.map kV))/\RelV p.2 e.val) l m->∀ {i:Nat} {e},m[i]?=some e->∃ kv b,l[i]?=some kv/\e.key = .ref b/\H b=some (.tup (kv.1.map kV))/\RelV kv.2 e.val:=by
  intro l m r
  induction r with
  | nil=>intro i e q; simp at q
  | @cons p q ps qs hq t ih =>
   intro i e z
   cases i with
   | zero=>simp at z; subst z; obtain ⟨b,h1,h2,h3⟩:=hq; exact ⟨p,b,rfl,h1,h2,h3⟩
   | succ i=>simpa using ih (by simpa using z)
 exact this h (by rw [Array.getElem?_toList]; exact q)
theorem Inv.entT {X:Cx}{pins:List (Addr × Obj)}{σ:St}{H:Hp}{s:Shared}{d:Addr}{kvs:List (List Key × V)}(I:Inv X pins σ H s)(h:Rd H d (.dT kvs)):(d == sysModules)=false/\kvs.length≤sizeLine/\(kvs.map (·.1)).Nodup/\∃ es ep,DEnt s.heap d es ep/\EntT H kvs es:=by
 obtain ⟨z,y,xs,r,o,es,ep,h1,h2,h3,h4,h5⟩:=(show qaW X.prog X.w H s.heap d (.dT kvs) from qlj I.hok h)
 have ek:kvs.map (·.1)=xs.map (·.1):=by
  clear h4 h5 z h
  induction r with
  | nil=>rfl
  | @cons p q ps qs hq t ih=>rw [List.map_cons,List.map_cons,hq.1,ih]
 refine ⟨y,z,by rw [ek]; exact h5,es,ep,⟨o,h1,h2,h3⟩,?_⟩
 unfold EntT
 rw [h4]
 clear h4 h5 ek z h
 induction r with
 | nil=>exact .nil
 | @cons p q ps qs hq t ih=>exact .cons ⟨q.2.1,rfl,hq.2.1,hq.2.2⟩ ih
structure Prd (H H':Hp)(kvs:List (List Key × V))(as:List Addr):Prop where
 same:Same H H'
 nodup:as.Nodup
 new:∀ a∈as,H a=none
 at_:∀ (j:Nat) (a:Addr),as[j]?=some a->∃ (kv:List Key × V) (b:Addr),kvs[j]?=some kv/\H b=some (.tup (kv.1.map kV))/\H' a=some (.tup [.ref b,kv.2])
section
variable {X:Cx}{pins:List (Addr × Obj)}{σ:St}{A:Around}{R:Result->Shared->Prop}{it S d:Addr}{es:Array DictEntry}{ep:Nat}{kvs:List (List Key × V)}{H0:Hp}{res:Value}
theorem qhd (hh:A.handled=none)(e0:EntT H0 kvs es)(few:es.size≤sizeLine)(hS:S≠it)(hd:d≠S)(hd2:d≠it)
  (fin:∀ (s':Shared) H' as (acc:Array Value) c,Inv X pins σ H' s'->Prd H0 H' kvs as->as.length=kvs.length->acc.toList=as.map Value.ref->s'.heap.get? S=some { cls := .type "list",dict:=none,data := .seq acc c,slots:=#[] }->H' S=none->R (.ok (.ret res)) s') :
  ∀ (k i:Nat) (s:Shared) (H:Hp) (as:List Addr) (acc:Array Value) (c:Nat),es.size - i=k->i≤es.size->Inv X pins σ H s->FpOk X pins H it->FpOk X pins H S->ItAt s.heap it d i es.size ep->DEnt s.heap d es ep ->
   Prd H0 H kvs as->as.length=i->acc.toList=as.map Value.ref->s.heap.get? S=some { cls := .type "list",dict:=none,data := .seq acc c,slots:=#[] } ->
   codeAny (model X.prog X.w) A (.builtin "list.extend.loop" ⟨[.ref S,.ref it,res],[]⟩) R s:=by
 intro k
 induction k with
 | zero =>
  intro i s H as acc c hk hi I fi fS ii de pr la ea gS
  refine codeAny_builtin PySem.F.entry_extend_loop ?_
  rw [Around.under_plainId PySem.F.plain_extend_loop _]
  show wpAny _ A.in1 (pyNext (.ref it) >>= _) _ _ s
  refine wpAny_bind (qgy hh ii de (by omega) fun h' eb=>wpAny_pure ?_)
  have I2:Inv X pins σ H { s with heap:=h' }:=I.turnedL (t':=s.toks) (fp:=[it]) (fun b hb=>by rw [List.mem_singleton.mp hb]; exact fi) fun b o hb e=>eb b o (by simpa using hb) e
  exact fin _ H as acc c I2 pr (by rw [la,<- e0.size]; omega) ea (eb S _ hS gS) fS.1
 | succ k ih =>
  intro i s H as acc c hk hi I fi fS ii de pr la ea gS
  have li:i < es.size:=by omega
  refine codeAny_builtin PySem.F.entry_extend_loop ?_
  rw [Around.under_plainId PySem.F.plain_extend_loop _]
  show wpAny _ A.in1 (pyNext (.ref it) >>= _) _ _ s
  refine wpAny_bind (qeW ii de li fun h' i2 T2 sz2 k2=>?_)
  obtain ⟨kv,b,q1,q2,q3,q4⟩:=e0.at (Array.getElem?_eq_getElem li)
  have hnw:H s.heap.objs.size=none:=I.hok.fresh (Nat.le_refl _)
  have sz:acc.size=i:=by rw [<- Array.length_toList,ea,List.length_map,la]
  have gS':=k2 S _ hS gS
  have nS:s.heap.objs.size≠S:=Nat.ne_of_gt (Heap.lt_size gS)
  have nit:s.heap.objs.size≠it:=let ⟨_,_,_,_,e,_⟩:=ii; Nat.ne_of_gt (Heap.lt_size e)
  show wpAny _ A.in1 (updateSeq S (·.push (.ref s.heap.objs.size)) >>= _) _ _ { s with heap:=h' }
  refine wpAny_bind (wpAny_updateSeq gS' rfl (wpAny_pure ⟨plainId_quiet PySem.F.plain_extend_loop _,?_⟩) (by rw [sz]; omega) (by show (acc.push _).size≤sizeLine + 1; rw [Array.size_push,sz]; omega))
  have oth:∀ c o,c≠S->h'.get? c=some o->(h'.update S (Obj.mapSeq (·.push (Value.ref s.heap.objs.size)))).get? c=some o:=fun c o hc e=>(Heap.get?_update_other _ _ (Ne.symm hc)).trans e
  have I2:Inv X pins σ (upd H s.heap.objs.size (.tup [.ref b,kv.2])) { s with heap:=h'.update S (Obj.mapSeq (·.push (Value.ref s.heap.objs.size))) }:=by
   refine I.turnedNew (t':=s.toks) (fp:=[it,S]) (fun b hb=>?_) (fun b o hb e=>?_) (Nat.le_refl _) ⟨by show 2≤_; decide,[es[i].key,es[i].val],.cons (by rw [q2]; rfl) (.cons q4 .nil),_,oth _ _ nS T2,rfl,_,rfl,rfl⟩
   ·rcases List.mem_cons.mp hb with rfl | hb
    ·exact fi
    ·rw [List.mem_singleton.mp hb]; exact fS
   ·simp only [List.mem_cons,List.not_mem_nil,or_false,not_or] at hb
    exact oth b o hb.2 (k2 b o hb.1 e)
  have F:∀ {b:Addr},b≠s.heap.objs.size->FpOk X pins H b->FpOk X pins (upd H s.heap.objs.size (.tup [.ref b,kv.2])) b:=fun hb f=>⟨by rw [uE hb]; exact f.1,f.2⟩
  have nn:H0 s.heap.objs.size=none:=by
   cases z:H0 s.heap.objs.size with
   | none=>rfl
   | some o=>have:=pr.same _ _ z; rw [hnw] at this; cases this
  refine ih (i + 1) _ (upd H s.heap.objs.size (.tup [.ref b,kv.2])) (as ++ [s.heap.objs.size]) (acc.push (.ref s.heap.objs.size)) _ (by omega) li I2 ?_ ?_ (i2.at fun o e=>oth it o (Ne.symm hS) e) (de.at fun o e=>oth d o hd (k2 d o hd2 e)) ?_ (by simp [la]) (by simp [ea]) (Heap.get?_update_self _ gS' rfl)
  ·exact ⟨by rw [uE (Ne.symm nit)]; exact fi.1,fi.2⟩
  ·exact ⟨by rw [uE (Ne.symm nS)]; exact fS.1,fS.2⟩
  ·refine ⟨fun c o e=>?_,?_,?_,?_⟩
   ·rw [uE (qae (pr.same c o e) hnw)]; exact pr.same c o e
   ·refine List.nodup_append.mpr ⟨pr.nodup,by simp,fun x hx y hy z=>?_⟩
    rw [List.mem_singleton] at hy
    subst hy z
    obtain ⟨j,hj⟩:=List.getElem?_of_mem hx
    obtain ⟨_,_,_,_,w⟩:=pr.at_ j _ hj
    rw [hnw] at w; cases w
   ·intro a ha
    rcases List.mem_append.mp ha with ha | ha
    ·exact pr.new a ha
    ·rw [List.mem_singleton.mp ha]; exact nn
   ·intro j a ja
    rcases Nat.lt_or_ge j as.length with u | u
    ·rw [List.getElem?_append_left u] at ja
     obtain ⟨kv',b',w1,w2,w3⟩:=pr.at_ j a ja
     exact ⟨kv',b',w1,w2,by rw [uE (qae w3 hnw)]; exact w3⟩
    ·rw [List.getElem?_append_right u] at ja
     have hj:j=i:=by
      rcases Nat.eq_or_lt_of_le u with e | e
      ·omega
      ·rw [List.getElem?_eq_none (by simp; omega)] at ja; cases ja
     subst hj
     simp [la] at ja
     subst ja
     exact ⟨kv,b,q1,q3,uS⟩
end
end L2
namespace Srt
open PySem PySem.W PySem.Spec PyProof.Rows L2
def lexI:List Int->List Int->Bool
 | [],[]=>false
 | [],_ :: _=>true
 | _ :: _,[]=>false
 | a :: as,b :: bs=>if a=b then lexI as bs else decide (a < b)
theorem qdh:∀ a b,lexI a b=true->lexI b a=false
 | [],[],h=>by simp [lexI] at h
 | [],_ :: _,_=>rfl
 | _ :: _,[],h=>by simp [lexI] at h
 | a :: as,b :: bs,h=>by
  unfold lexI at h ⊢
  by_cases e:a=b
  ·rw [if_pos e] at h; rw [if_pos e.symm]; exact qdh as bs h
  ·rw [if_neg e] at h; rw [if_neg (Ne.symm e)]
   simp at h ⊢; omega
theorem qfK:∀ a b c,lexI b a=false->lexI c b=false->lexI c a=false
 | [],[],c,_,h=>h
 | [],b :: bs,[],_,_=>rfl
 | [],b :: bs,c :: cs,_,_=>rfl
 | a :: as,[],c,h,_=>by simp [lexI] at h
 | a :: as,b :: bs,[],_,h=>by simp [lexI] at h
 | a :: as,b :: bs,c :: cs,h1,h2=>by
  unfold lexI at h1 h2 ⊢
  by_cases e1:b=a <;> by_cases e2:c=b
  ·rw [if_pos e1] at h1; rw [if_pos e2] at h2; rw [if_pos (e2.trans e1)]; exact qfK as bs cs h1 h2
  ·rw [if_pos e1] at h1; rw [if_neg e2] at h2; rw [if_neg (fun z=>e2 (z.trans e1.symm))]; rw [<- e1]; exact h2
  ·rw [if_neg e1] at h1; rw [if_pos e2] at h2; rw [if_neg (fun z=>e1 (e2.symm.trans z))]; rw [e2]; exact h1
  ·rw [if_neg e1] at h1; rw [if_neg e2] at h2
   simp at h1 h2
   rw [if_neg (by omega)]; simp; omega
theorem qgs:∀ a b,lexI a b=false->lexI b a=false->a=b
 | [],[],_,_=>rfl
 | [],_ :: _,h,_=>by simp [lexI] at h
 | _ :: _,[],_,h=>by simp [lexI] at h
 | a :: as,b :: bs,h1,h2=>by
  unfold lexI at h1 h2
  by_cases e:a=b
  ·subst e; rw [if_pos rfl] at h1 h2; rw [qgs as bs h1 h2]
  ·rw [if_neg e] at h1; rw [if_neg (Ne.symm e)] at h2
   simp at h1 h2; omega
theorem ordI (ks:Nat->List Int):Ord fun i j=>lexI (ks i) (ks j):=⟨fun i j h=>qdh _ _ h,fun i j k h1 h2=>qfK _ _ _ h1 h2⟩
def TupI (h:Heap)(b:Addr)(ks:List Int):Prop:=∃ o items n,h.get? b=some o/\o.cls = .type "tuple" /\ o.data = .seq items n/\IntsAre items.toList ks
theorem TupI.at {h h':Heap}{b:Addr}{ks:List Int}(x:TupI h b ks)(k:∀ o,h.get? b=some o->h'.get? b=some o):TupI h' b ks:=let ⟨o,i,n,e,r⟩:=x; ⟨o,i,n,k o e,r⟩
theorem TupI.isTuple {h:Heap}{b:Addr}{ks:List Int}(x:TupI h b ks):∃ items:Array Value,h.IsTuple b items/\IntsAre items.toList ks:=let ⟨o,i,n,e,c,d,r⟩:=x; ⟨i,⟨o,e,c,n,d⟩,r⟩
section
variable {prog:Program}{w:World}{A:Around}{E:Value->Shared->Prop}{s:Shared}
theorem qix {as bs:List Int}{i:Nat}(h1:min as.length bs.length≤i)(h2:i≤min as.length bs.length):lexI (as.drop i) (bs.drop i)=decide (as.length < bs.length):=by
 rcases Nat.lt_or_ge i as.length with a1 | a1
 ·rw [List.drop_of_length_le (l:=bs) (by omega),List.drop_eq_getElem_cons a1]
  show false=_
  simp; omega
 ·rw [List.drop_of_length_le a1]
  rcases Nat.lt_or_ge i bs.length with b1 | b1
  ·rw [List.drop_eq_getElem_cons b1]
   show true=_
   simp; omega
  ·rw [List.drop_of_length_le b1]
   show false=_
   simp; omega
open PySem.SeqAt in
theorem qhY {x y:Addr}{as bs:List Int}(hx:TupI s.heap x as)(hy:TupI s.heap y bs)(hu:A.units < cLine):RcLtAt A s (.ref x) (.ref y) (lexI as bs):=by
 obtain ⟨xs,t1,r1⟩:=hx.isTuple
 obtain ⟨ys,t2,r2⟩:=hy.isTuple
 have l1:=IntsAre.length r1
 have l2:=IntsAre.length r2
 have lx:xs.size=as.length:=by simpa using l1
 have ly:ys.size=bs.length:=by simpa using l2
 have atI:∀ {vs:List Value} {ns:List Int},IntsAre vs ns->∀ {j:Nat} (h1:j < vs.length) (h2:j < ns.length),∃ t,vs[j] = .int ns[j] t:=by
  intro vs ns r
  induction r with
  | nil=>intro j h1; simp at h1
  | cons n t q ih =>
   intro j h1 h2
   cases j with
   | zero=>exact ⟨t,rfl⟩
   | succ j=>simpa using ih (by simpa using h1) (by simpa using h2)
 have key:=RcLtAt.tuples (e:=fun i=>as[i]? == bs[i]?) (f:=fun i=>decide (as.getD i 0 < bs.getD i 0)) (res:=fun i=>if i < min as.length bs.length then lexI (as.drop i) (bs.drop i) else decide (as.length < bs.length)) t1 t2 hu (fun i hi e=>?_) (fun i hi e=>?_) (fun i hi=>?_) (fun j h1 h2=>?_) (fun j h1 h2 e=>?_)
 ·by_cases z:0 < min as.length bs.length
  ·rw [if_pos z] at key; simpa using key
  ·rw [if_neg z,<- qix (as:=as) (bs:=bs) (i:=0) (by omega) (by omega)] at key; simpa using key
 ·have a1:i < as.length:=by omega
  have b1:i < bs.length:=by omega
  have e':as[i]=bs[i]:=by simpa [a1,b1] using e
  have h1:lexI (as.drop i) (bs.drop i)=lexI (as.drop (i + 1)) (bs.drop (i + 1)):=by
   rw [List.drop_eq_getElem_cons a1,List.drop_eq_getElem_cons b1]
   conv=>lhs; unfold lexI
   rw [if_pos e']
  rw [if_pos (by omega),h1]
  by_cases z:i + 1 < min as.length bs.length
  ·rw [if_pos z]
  ·rw [if_neg z,qix (by omega) (by omega)]
 ·have a1:i < as.length:=by omega
  have b1:i < bs.length:=by omega
  have e':as[i]≠bs[i]:=by simpa [a1,b1] using e
  rw [if_pos (by omega),List.drop_eq_getElem_cons a1,List.drop_eq_getElem_cons b1]
  unfold lexI
  rw [if_neg e']
  simp [a1,b1]
 ·rw [if_neg (by omega),lx,ly]
 ·have a1:j < as.length:=by omega
  have b1:j < bs.length:=by omega
  obtain ⟨t,q1⟩:=atI r1 (j:=j) (by simpa using h1) a1
  obtain ⟨u,q2⟩:=atI r2 (j:=j) (by simpa using h2) b1
  have q1':xs[j] = .int as[j] t:=by simpa using q1
  have q2':ys[j] = .int bs[j] u:=by simpa using q2
  rw [q1',q2']
  have:=EqAt.int_int (A:=A.in1) (s:=s) as[j] t bs[j] u
  simpa [a1,b1] using this
 ·have a1:j < as.length:=by omega
  have b1:j < bs.length:=by omega
  obtain ⟨t,q1⟩:=atI r1 (j:=j) (by simpa using h1) a1
  obtain ⟨u,q2⟩:=atI r2 (j:=j) (by simpa using h2) b1
  have q1':xs[j] = .int as[j] t:=by simpa using q1
  have q2':ys[j] = .int bs[j] u:=by simpa using q2
  rw [q1',q2']
  intro prog w E Q h
  have h':Q (.bool (decide (as[j] < bs[j]))) s:=by simpa [a1,b1] using h
  exact lt_int h'
theorem qgx {P:Program}{w:World}{h:Heap}{b:Addr}{ks:List Int}(x:TupI h b ks):IsTupleKey (qap P w) h (ks.map Sum.inl) b:=by
 obtain ⟨o,items,n,e,c,d,r⟩:=x
 refine ⟨o,items,n,e,c,d,?_⟩
 clear e d
 generalize items.toList=l at r
 induction r with
 | nil=>exact .nil
 | cons n t q ih=>exact .cons (qfL (k:=Sum.inl n) ⟨t,rfl⟩) ih
theorem qhb {x y kx ky:Addr}{vx vy:Value}{ox oy:Obj}{n m:Nat}{as bs:List Int}{Q:Bool->Shared->Prop}(gx:s.heap.get? x=some ox)(dx:ox.data = .seq #[.ref kx,vx] n)(gy:s.heap.get? y=some oy)(dy:oy.data = .seq #[.ref ky,vy] m)
  (hx:TupI s.heap kx as) (hy:TupI s.heap ky bs) (ne:as≠bs) (hu:A.units < cLine) (h:Q (lexI as bs) s):wpAny (model prog w) A (keyLt' (tuples' false) (.ref x) (.ref y)) Q E s:=by
 refine kat_lt gx dx gy dy ?_
 show KatLex prog w A false _ Q ((.ref kx,.ref ky) :: _) 0 s
 refine kat_cons (wpAny_eqBool_tuple (knd:=qap prog w) hu (qgx hx) (qgx hy) ?_)
 rw [decide_eq_false (fun e=>ne ((List.map_inj_right (fun a b e=>Sum.inl.inj e)).mp e))]
 exact kat_no (kat_one _ _ (qhY hx hy hu prog w _ _ h))
end
end Srt
namespace L2
open PySem PySem.W PySem.Spec PyProof.Rows DI Srt
theorem qeJ {α β:Type}{F:α->β->Prop}:∀ {xs:List α} {ys:List β},xs.length=ys.length->(∀ (j:Nat) x y,xs[j]?=some x->ys[j]?=some y->F x y)->Paired F xs ys
 | [],[],_,_ => .nil
 | x :: xs,y :: ys,hl,h => .cons (h 0 x y rfl rfl) (qeJ (by simpa using hl) fun j a b p q=>h (j + 1) a b (by simpa using p) (by simpa using q))
 | [],_ :: _,hl,_=>by simp at hl
 | _ :: _,[],hl,_=>by simp at hl
theorem qaz {α β:Type}{F:α->β->Prop}{xs:List α}{ys:List β}(h:Paired F xs ys):∀ {j:Nat} {x:α},xs[j]?=some x->∃ y,ys[j]?=some y/\F x y:=by
 induction h with
 | nil=>intro j x e; simp at e
 | @cons a b as bs r t ih =>
  intro j x e
  cases j with
  | zero=>simp at e; subst e; exact ⟨b,rfl,r⟩
  | succ j=>simpa using ih (by simpa using e)
theorem Inv.tupI {X:Cx}{pins:List (Addr × Obj)}{σ:St}{H:Hp}{s:Shared}{b:Addr}{k:List Int}(I:Inv X pins σ H s)(h:H b=some (.tup (iv k))):TupI s.heap b k:=by
 obtain ⟨z,its,r,o,e,c,n,d,_⟩:=(show qaW X.prog X.w H s.heap b (.tup (iv k)) from I.hok b _ h)
 exact ⟨o,its.toArray,n,e,c,d,by simpa using intsAre_of r⟩
theorem qmL {α:Type}{n:Nat}{p:Array Nat}(hp:Of n p){ks:List α}(hk:ks.length=n)(d:α):(p.toList.map fun i=>ks.getD i d).Perm ks:=by
 have h1:=(Array.perm_iff_toList_perm.mp hp).map fun i=>ks.getD i d
 have h2:((List.toArray (List.range n)).toList.map fun i=>ks.getD i d)=ks:=by
  show (List.range n).map _=ks
  refine List.ext_getElem (by simp [hk]) fun i a b=>?_
  simp at a
  simp [hk ▸ a]
 rw [h2] at h1; exact h1
theorem qfk {c:Nat->Nat->Bool}{n:Nat}{p:Array Nat}(hp:Of n p)(u:Up c p n):p.toList.Pairwise fun i j=>c j i=false:=by
 rw [List.pairwise_iff_getElem]
 intro i j hi hj hij
 have hs:=hp.size
 have:=u i j (Nat.le_of_lt hij) (by rw [<- hs]; simpa using hj)
 have e1:at' p i=p.toList[i]:=by unfold at'; simp at hi; simp [hi]
 have e2:at' p j=p.toList[j]:=by unfold at'; simp at hj; simp [hj]
 rw [e1,e2] at this; exact this
def qdr (ms:List (List Int)):Prop:=ms.Pairwise fun a b=>lexI b a=false
section
variable {X:Cx}
theorem qgw {H:Hp}{b:Addr}{k:List Int}(h:H b=some (.tup ((k.map Sum.inl).map kV))):H b=some (.tup (iv k)):=by
 rw [h,List.map_map]; rfl
theorem qev:∀ (bs:List Addr),Vals (bs.map V.ref) (bs.map Value.ref)
 | [] => .nil
 | _ :: bs => .cons rfl (qev bs)
end
def itV (v d:Addr):HO := .ext fun h=>h.IsItemsView v d
section
variable {X:Cx}{o:Expr}{to:TE}{apos cpos:Pos}
def qmr (to:TE):TE:=fun σ H Q=>to σ H fun x H1=>∃ d kvs,x = .ref d/\Rd H1 d (.dT kvs)/\∀ v,H1 v=none->Q (.ref v) (upd H1 v (itV v d))
theorem qjO (ho:PE X o to)(hbase:attributeBase o "items" X.env (eval o X.env)=eval o X.env:=by rfl)(hline:(apos.endLine == cpos.line)=true:=by rfl):PE X (.Call (.Attribute o "items" apos) [] [] cpos) (qmr to):=by
 intro pins s σ H Q I h
 refine wpAny_Call_method0_late hbase hline (thn (ho pins s σ H _ I h) fun v s1 ⟨x,H1,I1,r1,d,kvs,ex,hd,q⟩=>?_)
 subst ex
 cases r1
 obtain ⟨lo,z,nd,es,ep,de,en⟩:=I1.entT hd
 obtain ⟨ob,gb,xb,db⟩:=id de
 refine ⟨"dict", "dict.items",F.plainAttrs_dict,F.slot_dict_items,F.type_dict_items,de.ty,(fun b e=>by cases e; exact ⟨ob,gb,xb.2.1⟩),Calls.callWith_builtin rfl (PySem.evalArgs_none ?_)⟩
 refine call_meetsIn F.slot_dict_items de.ty F.entry_dict_items (F.args_dict_items_1 _) (qdy lo) ⟨⟨es,ep,de⟩,.ref s1.heap.objs.size,_,I1.laid (t':=s1.toks) (o:=itV s1.heap.objs.size d) (fun b u e=>Heap.get?_push_of_some _ e) (Nat.le_refl _) ⟨⟨_,Heap.get?_push_size _ rfl,rfl,rfl⟩,⟨_,Heap.get?_push_size _ rfl⟩,fun h1 h2 ⟨o,e,r⟩ k=>⟨o,k o e,r⟩⟩,rfl,q _ (I1.hok.fresh (Nat.le_refl _))⟩
end
section
variable {X:Cx}
theorem qjb:qb5 X (.builtin "len") (fun xs H Q=>∃ d kvs,xs=[.ref d]/\Rd H d (.dT kvs)/\Q (.int kvs.length) H):=by
 intro pins s σ H xs us Q I r h
 obtain ⟨d,kvs,rfl,hd,q⟩:=h
 obtain ⟨u,rfl,ru⟩:=vals1 r
 obtain rfl:u=Value.ref d:=ru
 obtain ⟨lo,z,nd,es,ep,de,en⟩:=I.entT hd
 obtain ⟨ob,gb,xb,db⟩:=id de
 rw [sizeLine_eq] at z
 have ml:MeetsIn X.prog X.w (Builtin.«dict.__len__» ⟨[.ref d],[]⟩) (fun _ R s'=>(∃ es ep,DEnt s'.heap d es ep/\es.size=kvs.length)/\R (.ok (.ret (.int kvs.length s'.toks))) { s' with toks:=s'.toks + 1 }) :=
  .of_wp fun A R s' ⟨⟨es,ep,⟨ob,gb,xb,db⟩,hz⟩,h⟩=>by
   show wpAny _ _ (dictSize d >>= _) _ _ s'
   unfold dictSize
   refine wpAny_bind (wpAny_bind (wpAny_dictEntries gb db (wpAny_pure ?_)))
   show wpAny _ _ (Builtin.Dict.pendingCount d >>= _) _ _ s'
   refine wpAny_bind (wpAny_pendingCount_other lo (wpAny_ret_mkInt ?_))
   rw [Nat.add_zero,hz]; exact h
 refine Calls.call_function_entry kind_len plain_len entry_len (args_len1 _) ?_
 unfold Builtin.«len»
 refine wpAny_bind (m:=oneArg "len" _) (wpAny_pure (wpAny_bind (m:=callSpecial? (.ref d) (Str.ofString "__len__")) (wpAny_callSpecial?_slot (name:=Str.ofString "__len__") de.ty F.slot_dict_len (call_meetsIn F.slot_dict_len de.ty F.entry_dict_len (F.args_dict_len_1 _) ml ⟨⟨es,ep,de,en.size⟩,?_⟩))))
 show wpAny _ _ _ _ _ { s with toks:=s.toks + 1 }
 refine wpAny_bind (wpAny_holding (wpAny_pure (wpAny_bind (wpAny_letGo ?_))))
 show wpAny _ _ (if ((kvs.length:Nat):Int) < 0 then _ else _) _ _ _
 rw [if_neg (by omega)]
 show wpAny _ _ (if ((kvs.length:Nat):Int) ≥ 2 ^ 63 then _ else _) _ _ _
 rw [if_neg (by omega)]
 exact wpAny_bind (wpAny_mkInt (wpAny_pure ⟨_,rfl,.int kvs.length,H,I.tok _,⟨_,rfl⟩,q⟩))
end
section
variable {X:Cx}{pins:List (Addr × Obj)}{σ:St}{H:Hp}{s:Shared}{A:Around}{E:Value->Shared->Prop}{v d:Addr}{es:Array DictEntry}{ep:Nat}{kvs:List (List Key × V)}
theorem qes {Q:List Value->Shared->Prop}(hh:A.handled=none)(I:Inv X pins σ H s)(vw:s.heap.IsItemsView v d)(de:DEnt s.heap d es ep)(en:EntT H kvs es)(few:es.size≤sizeLine)
  (fin:∀ (s':Shared) H' as,Inv X pins σ H' s'->Prd H H' kvs as->as.length=kvs.length->Q (as.map Value.ref) s'):wpAny (model X.prog X.w) A (collect (.ref v)) Q E s:=by
 unfold collect
 refine wpAny_bind (wpAny_runValue (codeAny_builtin PySem.F.entry_proto_collect ?_))
 rw [Around.under_plainId PySem.F.plain_proto_collect _]
 show wpAny _ A.in1 (newList [] >>= fun l=>again (.builtin "list.__iadd__" ⟨[l,.ref v],[]⟩)) _ _ s
 refine wpAny_bind (wpAny_newObj_type (wpAny_pure ⟨plainId_quiet PySem.F.plain_list_iadd _,codeAny_builtin PySem.F.entry_list_iadd ?_⟩))
 rw [Around.under_plainId PySem.F.plain_list_iadd _]
 show wpAny _ A.in1 (Builtin.List.listExtendWith (.ref s.heap.objs.size) (.ref v) (.ref s.heap.objs.size)) _ _ { s with heap:=s.heap.push { cls := .type "list",data := .seq #[] } }
 have gS:(s.heap.push { cls := .type "list",data := .seq #[] }).get? s.heap.objs.size=some { cls := .type "list",data := .seq #[] }:=Heap.get?_push_size _ rfl
 have vw1:(s.heap.push { cls := .type "list",data := .seq #[] }).IsItemsView v d:=let ⟨o,e,r⟩:=vw; ⟨o,Heap.get?_push_of_some _ e,r⟩
 have de1:DEnt (s.heap.push { cls := .type "list",data := .seq #[] }) d es ep:=de.at fun o e=>Heap.get?_push_of_some _ e
 have nv:s.heap.objs.size≠v:=let ⟨o,e,_⟩:=vw; Nat.ne_of_gt (Heap.lt_size e)
 have zS:(s.heap.push { cls := .type "list",data := .seq #[] }).objs.size=s.heap.objs.size + 1:=Heap.size_push ..
 unfold Builtin.List.listExtendWith
 refine wpAny_bind (wpAny_typeOf (T := "dict_items") (s:={ s with heap:=s.heap.push { cls := .type "list",data := .seq #[] } }) (Heap.IsItemsView.typeIs (s:={ s with heap:=s.heap.push { cls := .type "list",data := .seq #[] } }) vw1) ?_)
 simp only [show Builtin.List.listSameRef (.ref s.heap.objs.size) (.ref v)=false by simp [Builtin.List.listSameRef,nv],show (Value.type "dict_items" == Value.type "list")=false by decide,show (Value.type "dict_items" == Value.type "tuple")=false by decide,Bool.or_false,Bool.false_eq_true,if_false]
 refine wpAny_bind (qeX (s:={ s with heap:=s.heap.push { cls := .type "list",data := .seq #[] } }) vw1 de1 fun h2 ii k2=>?_)
 have k2':∀ b o,s.heap.get? b=some o->h2.get? b=some o:=fun b o e=>k2 b o (Heap.get?_push_of_some _ e)
 have gS2:=k2 _ _ gS
 refine wpAny_bind (wpAny_holding (kdx_hint (let ⟨o,e,c,_⟩:=vw1; ⟨o,k2 _ _ e,c⟩) ?_))
 have loop:∀ (h3:Heap) (c:Nat),(∀ b o,b≠s.heap.objs.size->h2.get? b=some o->h3.get? b=some o)->h3.get? s.heap.objs.size=some { cls := .type "list",data := .seq #[] c } ->
   codeAny (model X.prog X.w) A (.builtin "list.extend.loop" ⟨[.ref s.heap.objs.size,.ref (s.heap.push { cls := .type "list",data := .seq #[] }).objs.size,.ref s.heap.objs.size],[]⟩) (fun (x:Result) s'=>match x with
    | .ok (.ret v)=>wpAny (model X.prog X.w) A (match v with
     | .ref a=>do
      let o <- load a
      match o.data with
      | .seq xs _=>pure xs.toList
      | _=>unsupported "internal:collect"
     | _=>unsupported "internal:collect") Q E s'
    | .ok _=>False
    | .error e=>E e s') { s with heap:=h3 }:=by
  intro h3 c k3 g3
  have k3':∀ b o,s.heap.get? b=some o->h3.get? b=some o:=fun b o e=>k3 b o (Nat.ne_of_lt (Heap.lt_size e)) (k2' b o e)
  have I3:Inv X pins σ H { s with heap:=h3 }:=I.kept (t':=s.toks) k3'
  have ii3:ItAt h3 (s.heap.push { cls := .type "list",data := .seq #[] }).objs.size d 0 es.size ep:=⟨_,_,_,_,k3 _ _ (by rw [zS]; omega) ii,.inl rfl⟩
  refine qhd (X:=X) (pins:=pins) (σ:=σ) (H0:=H) (kvs:=kvs) (S:=s.heap.objs.size) (it:=(s.heap.push { cls := .type "list",data := .seq #[] }).objs.size) hh en few (Nat.ne_of_lt (by rw [zS]; exact Nat.lt_succ_self _)) (Nat.ne_of_lt de.lt) (Nat.ne_of_lt (Nat.lt_of_lt_of_le de.lt (by rw [zS]; omega))) (fun s' H' as acc c' I' pr la ea gS' nS'=>?_)
   es.size 0 _ H [] #[] c (by omega) (Nat.zero_le _) I3 (I.fpOk (by rw [zS]; omega) (I.hok.fresh (by rw [zS]; omega))) (I.fpOk (Nat.le_refl _) (I.hok.fresh (Nat.le_refl _))) ii3 (de.at fun o e=>k3' d o e) ⟨Same.refl _,List.nodup_nil,(fun a ha=>nomatch ha),(fun j a e=>by simp at e)⟩ rfl rfl g3
  show wpAny _ A (load s.heap.objs.size >>= _) _ _ s'
  refine wpAny_bind (wpAny_load gS' (wpAny_pure ?_))
  rw [ea]
  exact fin s' H' as I' pr la
 refine wpAny_ite_split (fun _=>?_) (fun _=>wpAny_pure ⟨plainId_quiet PySem.F.plain_extend_loop _,loop h2 0 (fun b o _ e=>e) gS2⟩)
 refine wpAny_bind (wpAny_rule (wpAny_bind ?_))
 show wpAny _ _ (updateSeq s.heap.objs.size (·.push .none) >>= fun _=>updateSeq s.heap.objs.size (·.pop)) _ _ _
 refine wpAny_bind (wpAny_updateSeq gS2 rfl ?_)
 have gS3:=Heap.get?_update_self (Obj.mapSeq (·.push Value.none)) gS2 rfl
 refine wpAny_updateSeq (hz:=by seq_fits) gS3 rfl ?_
 have gS4:=Heap.get?_update_self (Obj.mapSeq (·.pop)) gS3 rfl
 refine wpAny_pure ⟨plainId_quiet PySem.F.plain_extend_loop _,loop _ _ (fun b o hb e=>?_) gS4⟩
 exact (Heap.get?_update_other _ _ (Ne.symm hb)).trans ((Heap.get?_update_other _ _ (Ne.symm hb)).trans e)
end
abbrev PrsAt (H H':Hp)(as:List Addr)(rs:List (List Int × V)):Prop:=Paired (fun a r=>∃ b,H b=some (.tup (iv r.1))/\H a=none/\H' a=some (.tup [.ref b,r.2])) as rs
abbrev kI (kw:List Int × V):List Key × V:=(kw.1.map Sum.inl,kw.2)
theorem qhi {prog:Program}{w:World}{A:Around}{s:Shared}{as:List Addr}{ks:List (List Int)}(hu:A.units < cLine)(hl:as.length=ks.length)(h2:2≤as.length)(nd:ks.Nodup)
  (ht:∀ (j:Nat) a k,as[j]?=some a->ks[j]?=some k->∃ o b u n,s.heap.get? a=some o/\o.cls = .type "tuple" /\ o.data = .seq #[.ref b,u] n/\TupI s.heap b k) :
  Asks prog w A (as.map Value.ref) (fun i j=>lexI (ks.getD i []) (ks.getD j [])) (tuples' false) s where
 kind:=fun E Q h=>by
  obtain ⟨fs,hf,hi,hn⟩:∃ fs:List Value,KatTups s.heap (as.map Value.ref) fs/\(∀ v∈fs,∃ b k,v = .ref b/\TupI s.heap b k)/\fs.length=as.length:=by
   clear h2 h nd
   induction as generalizing ks with
   | nil=>exact ⟨[],.nil,(fun v hv=>nomatch hv),rfl⟩
   | cons a as ih =>
    cases ks with
    | nil=>simp at hl
    | cons k ks =>
     obtain ⟨fs,h1,h2,h3⟩:=ih (ks:=ks) (by simpa using hl) fun j b' k' e1 e2=>ht (j + 1) b' k' (by simpa using e1) (by simpa using e2)
     obtain ⟨o,b,u,n,e,c,d,ti⟩:=ht 0 a k rfl rfl
     refine ⟨.ref b :: fs,.cons e c d rfl h1,fun v hv=>?_,by simp [h3]⟩
     rcases List.mem_cons.mp hv with rfl | hv
     ·exact ⟨_,_,rfl,ti⟩
     ·exact h2 v hv
  refine kat_kind (T := .type "tuple") hf (by omega) (fun v hv=>?_) (by decide) h
  obtain ⟨b,k,rfl,o,items,n,e,c,_⟩:=hi v hv
  exact c ▸ (show Looks _ s.heap (typeOf (.ref b)) o.cls from (Looks.ld e).andThen .now)
 less:=fun i j ⟨hi,hj,hne⟩ Q h=>by
  rw [List.length_map] at hi hj
  have g1:(as.map Value.ref).getD i Value.none = .ref as[i]:=by simp [hi]
  have g2:(as.map Value.ref).getD j Value.none = .ref as[j]:=by simp [hj]
  have l1:i < ks.length:=by omega
  have l2:j < ks.length:=by omega
  have k1:ks.getD i []=ks[i]:=by simp [l1]
  have k2:ks.getD j []=ks[j]:=by simp [l2]
  rw [g1,g2]
  rw [k1,k2] at h
  obtain ⟨o1,b1,u1,n1,e1,c1,d1,t1⟩:=ht i _ _ (by simp [hi]:as[i]?=some as[i]) (by simp [l1]:ks[i]?=some ks[i])
  obtain ⟨o2,b2,u2,n2,e2,c2,d2,t2⟩:=ht j _ _ (by simp [hj]:as[j]?=some as[j]) (by simp [l2]:ks[j]?=some ks[j])
  refine qhb e1 d1 e2 d2 t1 t2 (fun z=>hne ?_) hu h
  have pw:=List.pairwise_iff_getElem.mp nd
  rcases Nat.lt_trichotomy i j with x | x | x
  ·exact absurd z (pw i j l1 l2 x)
  ·exact x
  ·exact absurd z.symm (pw j i l2 l1 x)
def qjF:List V->Hp->VK->Prop:=fun xs H Q=>∃ (v d:Addr) (kws:List (List Int × V)),xs=[.ref v]/\H v=some (itV v d)/\Rd H d (.dT (kws.map kI))/\kws.length < 65536 /\
 ∀ (H':Hp) (q:Addr) (as:List Addr) (rs:List (List Int × V)),Same H H'->H' q=none->rs.Perm kws->qdr (rs.map (·.1))->PrsAt H H' as rs->Q (.ref q) (upd H' q (.lst (as.map V.ref)))
section
variable {X:Cx}
theorem qio {ks:List (List Int)}(h:(ks.map fun k=>k.map (Sum.inl:Int->Key)).Nodup):ks.Nodup:=by
 induction ks with
 | nil=>exact List.nodup_nil
 | cons k ks ih =>
  rw [List.map_cons,List.nodup_cons] at h
  exact List.nodup_cons.mpr ⟨fun z=>h.1 (List.mem_map_of_mem z),ih h.2⟩
theorem qe6 (hc:X.calm=true)(hu:X.A.units + 2 < cLine):qb5 X (.builtin "sorted") qjF:=by
 intro pins s σ H xs us Q I r h
 obtain ⟨v,d,kws,rfl,hv,hd,few,q⟩:=h
 obtain ⟨u,rfl,ru⟩:=vals1 r
 obtain rfl:u=Value.ref v:=ru
 obtain ⟨lo,z,nd,es,ep,de,en⟩:=I.entT hd
 obtain ⟨vw,_,_⟩:=(show qaW X.prog X.w H s.heap v (itV v d) from I.hok v _ hv)
 have hes:=en.size
 rw [List.length_map] at hes
 refine qhP (qes (A:=X.A.in1) (show X.A.in1.handled=none from I.ok.hd hc) I vw de en (by rw [hes,sizeLine_eq]; omega) fun s' H' as I' pr la=>?_)
 rw [List.length_map] at la
 have nk:(kws.map (·.1)).Nodup:=by
  have e:((kws.map kI).map (·.1))=(kws.map (·.1)).map fun k=>k.map (Sum.inl:Int->Key):=by rw [List.map_map,List.map_map]; rfl
  rw [e] at nd
  exact qio nd
 have at_:∀ (j:Nat) a,as[j]?=some a->∃ r b,kws[j]?=some r/\H b=some (.tup (iv r.1))/\H a=none/\H' a=some (.tup [.ref b,r.2]):=fun j a e=>by
  obtain ⟨kv,b,w1,w2,w3⟩:=pr.at_ j a e
  rw [List.getElem?_map,Option.map_eq_some_iff] at w1
  obtain ⟨r,w4,w5⟩:=w1
  subst w5
  exact ⟨r,b,w4,qgw w2,pr.new a (List.mem_of_getElem? e),w3⟩
 have hkl:as.length=(kws.map (·.1)).length:=by simp [la]
 refine ⟨by simpa [la] using few,fun i j=>lexI ((kws.map (·.1)).getD i []) ((kws.map (·.1)).getD j []),tuples' false,ordI _,fun h2 h'' kp2=>qhi hu hkl (by simpa using h2) nk fun j a k e1 e2=>?_,fun p e h'' o1 o2 kp2 at2=>?_⟩
 ·obtain ⟨r,b,w1,w2,w3,w4⟩:=at_ j a e1
  rw [List.getElem?_map,w1] at e2
  cases e2
  obtain ⟨z,its,rv,o,ge,ce,n,de',_⟩:=(show qaW X.prog X.w H' s'.heap a (.tup [.ref b,r.2]) from I'.hok a _ w4)
  cases rv with
  | cons ra rr=>cases rr with
   | cons rb rr=>cases rr; cases ra; exact ⟨o,b,_,n,kp2 a o ge,ce,de',(I'.tupI (pr.same _ _ w2)).at fun o e=>kp2 b o e⟩
 ·rw [List.length_map,la] at o1 o2
  have pw:=qfk o1 o2
  have lt:∀ i∈p.toList,i < kws.length:=fun i hi=>List.mem_range.mp ((Array.perm_iff_toList_perm.mp o1).mem_iff.mp hi)
  refine ⟨.ref s'.heap.objs.size,_,I'.laid (t':=s'.toks) (a:=s'.heap.objs.size) (o := .lst ((p.toList.map fun i=>as.getD i 0).map V.ref)) kp2 (Nat.le_refl _) ⟨?_,(p.toList.map fun i=>as.getD i 0).map Value.ref,e,qev _,?_⟩,rfl,
   q H' _ (p.toList.map fun i=>as.getD i 0) (p.toList.map fun i=>kws.getD i ([],.non)) pr.same (I'.hok.fresh (Nat.le_refl _)) (qmL o1 rfl _) ?_ ?_⟩
  ·simp; rw [o1.size,sizeLine_eq]; omega
  ·rw [at2]
   congr 3
   unfold qeK
   rw [List.map_map]
   congr 1
   refine List.map_congr_left fun i hi=>?_
   have:=lt i hi
   have:i < as.length:=by omega
   simp [this]
  ·unfold qdr
   rw [List.map_map]
   refine List.pairwise_map.mpr (pw.imp_of_mem fun {i j} hi hj h=>?_)
   have l1:=lt i hi
   have l2:=lt j hj
   simpa [l1,l2] using h
  ·refine qeJ (by simp) fun j x y e1 e2=>?_
   rw [List.getElem?_map,Option.map_eq_some_iff] at e1 e2
   obtain ⟨i,hi,rfl⟩:=e1
   obtain ⟨i',hi',rfl⟩:=e2
   rw [hi] at hi'; cases hi'
   have l1:=lt i (List.mem_of_getElem? hi)
   have l2:i < as.length:=by omega
   obtain ⟨r,b,w1,w2,w3,w4⟩:=at_ i (as.getD i 0) (by simp [l2])
   have:kws.getD i ([],.non)=r:=by rw [List.getD_eq_getElem?_getD,w1]; rfl
   rw [this]
   exact ⟨b,w2,w3,w4⟩
end
structure qbQ (J:It)(n:Nat)(f:Nat->Hp->V->Hp->Prop)(ok:Hp->Prop):Prop where
 go:∀ i H,i < n->ok H->J.go i H
 yld:∀ i H x H',i < n->ok H->J.yld i H x H'->f i H x H'
 stop:∀ H,ok H->J.stop n H
section
variable {J:It}{n:Nat}{f:Nat->Hp->V->Hp->Prop}{ok:Hp->Prop}
theorem qfQ (Y:qbQ J n f ok){g:TG}{tb:TS}{D:Ends}{σ:St}{H:Hp}(Pv:Nat->St->Hp->Prop)(h0:Pv 0 σ H)(hok:∀ i σ H,Pv i σ H->ok H)
  (hs:∀ i x σ H H',i < n->Pv i σ H->f i H x H'->g x σ H' fun σ2 H2=>tb { D with nx:=Pv (i + 1),ct:=Pv (i + 1),bk:=D.nx } σ2 H2) (hd:∀ σ H,Pv n σ H->D.nx σ H) :
  ∃ W:Nat->Nat->St->Hp->Prop,(∃ m,W 0 m σ H)/\∀ i m σ H,W i m σ H ->
   (J.stop i H/\D.nx σ H)\/(J.go i H/\∃ N:St->Hp->Prop,(∀ σ' H',N σ' H'->∃ m',m' < m/\W (i + 1) m' σ' H')/\∀ x H',J.yld i H x H'->g x σ H' fun σ2 H2=>tb { D with nx:=N,ct:=N,bk:=D.nx } σ2 H2):=by
 refine ⟨fun i m σ H=>m=n - i/\i≤n/\Pv i σ H,⟨n,by simp,Nat.zero_le _,h0⟩,?_⟩
 rintro i m σ H ⟨rfl,hi,p⟩
 have o:=hok i σ H p
 by_cases hlt:i < n
 ·exact .inr ⟨Y.go i H hlt o,Pv (i + 1),fun σ' H' p'=>⟨n - (i + 1),by omega,rfl,hlt,p'⟩,fun x H' y=>hs i x σ H H' hlt p (Y.yld i H x H' hlt o y)⟩
 ·have e:i=n:=by omega
  subst e
  exact .inl ⟨Y.stop H o,hd σ H p⟩
theorem qel (Y:qbQ J n f ok){g:TG}{tc:TT}{tb:TB}{σ:St}{H:Hp}{Q:St->Hp->Prop}(Pv:Nat->St->Hp->Prop)(h0:Pv 0 σ H)(hok:∀ i σ H,Pv i σ H->ok H)
  (hs:∀ i x σ' H' H'',i < n->Pv i σ' H'->f i H' x H''->∀ R:St->Hp->Prop,(∀ a b,Pv (i + 1) a b->R a b)->g x σ' H'' fun σ2 H3=>tc σ2 H3 fun b H4=>if b=true then tb σ2 H4 R else R σ2 H4) (hd:∀ σ' H',Pv n σ' H'->Q σ' H'):qfW J g tc tb σ H Q:=by
 refine ⟨fun i m σ' H'=>m=n - i/\i≤n/\Pv i σ' H',⟨n,by simp,Nat.zero_le _,h0⟩,?_⟩
 rintro i m σ' H' ⟨rfl,hi,p⟩
 have o:=hok i σ' H' p
 by_cases hlt:i < n
 ·exact .inr ⟨Y.go i H' hlt o,fun x H2 y=>hs i x σ' H' H2 hlt p (Y.yld i H' x H2 hlt o y) _ fun a b pv=>⟨n - (i + 1),by omega,rfl,hlt,pv⟩⟩
 ·have e:i=n:=by omega
  subst e
  exact .inl ⟨Y.stop H' o,hd σ' H' p⟩
theorem qb0 (Y:qbQ J n f ok){g:TG}{tc:TT}{te:TE}{H:Hp}{R:Addr->Hp->Prop}{σ1:St}(Pv:Addr->Nat->List V->St->Hp->Prop)(hn:n≤100000)(hp0:∀ p,H p=none->Pv p 0 [] σ1 (upd H p (.lst [])))
  (hok:∀ p i ys σ' H',H p=none->Pv p i ys σ' H'->ok H')
  (hs:∀ p i ys σ' H' x H'',H p=none->i < n->ys.length≤i->Pv p i ys σ' H'->H' p=some (.lst ys)->f i H' x H''->∀ (Q1:V->St->Hp->Prop) (Q2:St->Hp->Prop),(∀ v σ2 H5,H5 p=some (.lst ys)->Pv p (i + 1) (ys ++ [v]) σ2 (upd H5 p (.lst (ys ++ [v])))->Q1 v σ2 H5)->(∀ σ2 H4,H4 p=some (.lst ys)->Pv p (i + 1) ys σ2 H4->Q2 σ2 H4) ->
    g x σ' H'' fun σ2 H3=>tc σ2 H3 fun b H4=>if b=true then te σ2 H4 fun v H5=>Q1 v σ2 H5 else Q2 σ2 H4)
  (q:∀ p ys σ' H',H p=none->Pv p n ys σ' H'->H' p=some (.lst ys)->ys.length≤n->R p H') :
  ∀ p,H p=none->∃ W:Nat->Nat->List V->St->Hp->Prop,(∃ m,W 0 m [] σ1 (upd H p (.lst [])))/\∀ i m ys σ' H',W i m ys σ' H' ->
   (J.stop i H'/\R p H')\/(J.go i H'/\∀ x H2,J.yld i H' x H2->g x σ' H2 fun σ2 H3=>tc σ2 H3 fun b H4=>if b=true then te σ2 H4 fun v H5=>ys.length < sizeLine/\H5 p=some (.lst ys)/\(∃ m',m' < m/\W (i + 1) m' (ys ++ [v]) σ2 (upd H5 p (.lst (ys ++ [v]))))
    else ∃ m',m' < m/\W (i + 1) m' ys σ2 H4):=by
 intro p hp
 refine ⟨fun i m ys σ' H'=>m=n - i/\i≤n/\ys.length≤i/\Pv p i ys σ' H'/\H' p=some (.lst ys),⟨n,by simp,Nat.zero_le _,Nat.zero_le _,hp0 p hp,uS⟩,?_⟩
 rintro i m ys σ' H' ⟨rfl,hi,hl,pv,hp'⟩
 have o:=hok p i ys σ' H' hp pv
 by_cases hlt:i < n
 ·refine .inr ⟨Y.go i H' hlt o,fun x H2 y=>hs p i ys σ' H' x H2 hp hlt hl pv hp' (Y.yld i H' x H2 hlt o y) _ _ (fun v σ2 H5 h5 pv5=>⟨by rw [sizeLine_eq]; omega,h5,n - (i + 1),by omega,rfl,hlt,by simp; omega,pv5,uS⟩) fun σ2 H4 h4 pv4=>⟨n - (i + 1),by omega,rfl,hlt,by omega,pv4,h4⟩⟩
 ·have e:i=n:=by omega
  subst e
  exact .inl ⟨Y.stop H' o,q p ys σ' H' hp pv hp' hl⟩
end
theorem qaU {K:PySem.W.Frag}{a:Addr}{xs:List V}:qbQ (Itl K a) xs.length (fun i H x H'=>H'=H/\xs[i]?=some x) (fun H=>H a=some (.lst xs)) :=
 ⟨fun i H hi o=>⟨xs,xs[i],SqL.of o,by simp [hi]⟩,fun i H x H' hi o ⟨e,y⟩=>⟨e,y xs (SqL.of o)⟩,fun H o=>⟨xs,SqL.of o,Nat.le_refl _⟩⟩
theorem qdx {K:PySem.W.Frag}{a:Addr}{xs:List V}:qbQ (Itt K a) xs.length (fun i H x H'=>H'=H/\xs[i]?=some x) (fun H=>H a=some (.tup xs)) :=
 ⟨fun i H hi o=>⟨xs,xs[i],SqT.of o,by simp [hi]⟩,fun i H x H' hi o ⟨e,y⟩=>⟨e,y xs (SqT.of o)⟩,fun H o=>⟨xs,SqT.of o,Nat.le_refl _⟩⟩
theorem qbp {lo:Int}{n:Nat}:qbQ (Itr lo n) n (fun i H x H'=>H'=H/\x = .int (lo + i)) (fun _=>True) :=
 ⟨fun i H hi _=>hi,fun i H x H' hi _ y=>y,fun H _=>Nat.le_refl _⟩
theorem Inv.freezeT {X:Cx}{pins:List (Addr × Obj)}{σ:St}{H:Hp}{s:Shared}{d:Addr}{kvs:List (List Key × V)}(I:Inv X pins σ H s)(h:H d=some (.dT kvs)):∃ o,Inv X pins σ (upd H d (.frz o (.dT kvs))) s:=by
 obtain ⟨z,y,xs,r,o,es,ep,h1,h2⟩:=(show qaW X.prog X.w H s.heap d (.dT kvs) from I.hok d _ h)
 refine ⟨o,qb3 (t':=s.toks) I (by rw [h]; exact True.intro) ⟨rfl,fun _ _=>rfl⟩ ⟨o,h1⟩ ⟨h1,z,y,xs,KT.keeps r fun b ys e=>?_,o,es,ep,h1,h2⟩⟩
 rw [uE (qdt e h (fun z=>nomatch z))]; exact e
theorem Inv.thawT {X:Cx}{pins:List (Addr × Obj)}{σ:St}{H:Hp}{s:Shared}{d:Addr}{o:Obj}{kvs:List (List Key × V)}(I:Inv X pins σ H s)(h:H d=some (.frz o (.dT kvs)))(hn:∀ o u,X.H₀ d≠some (.frz o u)):Inv X pins σ (upd H d (.dT kvs)) s:=by
 have ne:∀ {b:Addr} {u:HO},H b=some u->u ≠ .frz o (.dT kvs)->b≠d:=fun e z=>qdt e h z
 have nd:∀ {b:Addr},H b=none->b≠d:=fun {b} e z=>by subst z; rw [h] at e; cases e
 have B:=I.base
 refine ⟨I.ok,I.os,I.bare,⟨B.keep,B.slot,fun b o' e n hx=>?_,B.there,fun b xs e=>?_,fun b o' u e=>?_,fun b ps e=>?_⟩,I.loc,I.cell,?_,fun x c e=>?_,fun p hp=>?_,fun b u e=>?_,I.len⟩
 ·have:=B.free b o' e n hx; rw [uE (nd this)]; exact this
 ·have:=B.tups b xs e; rw [uE (ne this (fun z=>nomatch z))]; exact this
 ·have:=B.frzs b o' u e
  rw [uE (fun z=>by subst z; exact hn o' u e)]; exact this
 ·obtain ⟨m,q⟩:=B.tbls b ps e
  exact ⟨m,by rw [uE (ne q (fun z=>nomatch z))]; exact q⟩
 ·rw [uE (nd I.free)]; exact I.free
 ·have:=I.freeC x c e; rw [uE (nd this)]; exact this
 ·obtain ⟨p1,p2,p3⟩:=I.pin p hp
  exact ⟨p1,by rw [uE (nd p2)]; exact p2,p3⟩
 ·have st:∀ {b:Addr} {u:HO},qaW X.prog X.w H s.heap b u->qaW X.prog X.w (upd H d (.dT kvs)) s.heap b u:=fun x =>
   x.stay (fun _ _ _ q=>q) (fun c q=>by rw [uE (ne q (fun z=>nomatch z))]; exact q) (fun c xs q=>by rw [uE (ne q (fun z=>nomatch z))]; exact q) fun c ob q=>by rw [uE (ne q (fun z=>by cases z))]; exact q
  by_cases hb:b=d
  ·subst hb; rw [uS] at e; cases e
   exact st (I.hok b _ h).2
  ·rw [uE hb] at e; exact st (I.hok b u e)
theorem Inv.notFrz {X:Cx}{pins:List (Addr × Obj)}{σ:St}{H:Hp}{s:Shared}{d:Addr}{kvs:List (List Key × V)}(I:Inv X pins σ H s)(h:H d=some (.dT kvs)):∀ o u,X.H₀ d≠some (.frz o u):=fun o u e=>by
 have:=I.base.frzs d o u e
 rw [h] at this; cases this
def tThaw (te:TE):TE:=fun σ H Q=>∃ d kvs,H d=some (.dT kvs)/\te σ H fun v H'=>∃ o kvs',H' d=some (.frz o (.dT kvs'))/\Q v (upd H' d (.dT kvs'))
theorem qlt {X:Cx}{e:Expr}{te:TE}(h:PE X e te):PE X e (tThaw te):=by
 intro pins s σ H Q I ⟨d,kvs,hd,q⟩
 have nf:=I.notFrz hd
 refine thn (h pins s σ H _ I q) fun u s1 ⟨v,H1,I1,r1,o,kvs',hz,q2⟩=>?_
 exact ⟨v,_,I1.thawT hz nf,r1,q2⟩
def ItiT (d:Addr)(o:Obj):It :=
 ⟨fun i H=>∃ kvs kv,H d=some (.frz o (.dT kvs))/\kvs[i]?=some kv,fun i H v H'=>∃ p b kv,v = .ref p/\H p=none/\H b=some (.tup (kv.1.map kV))/\H'=upd H p (.tup [.ref b,kv.2])/\∀ kvs,H d=some (.frz o (.dT kvs))->kvs[i]?=some kv,fun i H=>∃ kvs,H d=some (.frz o (.dT kvs))/\kvs.length≤i⟩
theorem Inv.entZ {X:Cx}{pins:List (Addr × Obj)}{σ:St}{H:Hp}{s:Shared}{d:Addr}{o:Obj}{kvs:List (List Key × V)}{es:Array DictEntry}{ep:Nat}(I:Inv X pins σ H s)(h:H d=some (.frz o (.dT kvs)))(ho:o.data = .dict es ep):DEnt s.heap d es ep/\EntT H kvs es:=by
 obtain ⟨g,z,y,xs,r,o',es',ep',h1,h2,h3,h4,h5⟩:=I.hok d _ h
 rw [g] at h1; cases h1
 rw [ho] at h3; cases h3
 refine ⟨⟨o,g,h2,ho⟩,?_⟩
 unfold EntT
 rw [h4]
 clear h4 h5 z h
 induction r with
 | nil=>exact .nil
 | @cons p q ps qs hq t ih=>exact .cons ⟨q.2.1,rfl,hq.2.1,hq.2.2⟩ ih
theorem qfl {P:Program}{w:World}{K:PySem.W.Frag}{elts:List Expr}{c:Nat}{pos:Pos}{it d:Addr}{o:Obj}{es:Array DictEntry}{ep:Nat}(hod:o.data = .dict es ep):Turn P w K (.Tuple elts c pos) (ItiT d o) [it] it (fun i h=>ItAt h it d i es.size ep) where
 mem:=by simp
 obj:=fun i h st b hb=>by
  obtain ⟨_,_,_,_,e,_⟩:=st
  rw [List.mem_singleton.mp hb]
  exact ⟨_,e,fun v z=>by cases z⟩
 keep:=fun i h h' st k=>st.at fun o e=>k it (by simp) o e
 item:=by
  intro X hP hw hK hc i pins s σ H E I hf st hg
  subst hP hw hK
  obtain ⟨kvs,kv,hH,hx⟩:=hg
  obtain ⟨de,en⟩:=I.entZ hH hod
  have li:i < es.size:=by rw [en.size]; exact (List.getElem?_eq_some_iff.mp hx).1
  obtain ⟨kv',b,w1,w2,w3,w4⟩:=en.at (Array.getElem?_eq_getElem li)
  rw [hx] at w1; cases w1
  have lt:s.heap.objs.size≠it:=let ⟨_,_,_,_,e,_⟩:=st; Nat.ne_of_gt (Heap.lt_size e)
  refine qeW st de li fun h' st' T1 sz k1=>⟨_,rfl,?_⟩
  refine qlX (s:={ s with heap:=h' }) st' fun h2 st2 sb=>?_
  have T2:=(sb.2 _ lt).trans T1
  refine ⟨.ref s.heap.objs.size,upd H s.heap.objs.size (.tup [.ref b,kv.2]),I.turnedNew (t':=s.toks) hf (fun b u hb e=>(sb.2 _ (by simpa using hb)).trans (k1 b u (by simpa using hb) e)) (Nat.le_refl _) ⟨by show 2≤_; decide,[es[i].key,es[i].val],.cons (by rw [w2]; rfl) (.cons w4 .nil),_,T2,rfl,_,rfl,rfl⟩,rfl,⟨_,b,kv,rfl,I.hok.fresh (Nat.le_refl _),w3,rfl,fun ks hk=>by rw [hH] at hk; cases hk; exact hx⟩,st2,fun b hb=>?_⟩
  rw [List.mem_singleton.mp hb,uE (Ne.symm lt)]
  exact (hf it (by simp)).1
 done:=by
  intro X hP hw hK hc i pins s σ H E I hf st hg
  subst hP hw hK
  obtain ⟨kvs,hH,hx⟩:=hg
  obtain ⟨de,en⟩:=I.entZ hH hod
  exact qgy (I.ok.hd hc) st de (by rw [en.size]; exact hx) fun h' eb=>⟨rfl,I.turnedL (t':=s.toks) hf fun c o hc' q=>eb c o (by simpa using hc') q⟩
 self:=fun A i s Q E st h=>by
  obtain ⟨f0,f1,ok,ov,e,_⟩:=st
  have hT:s.TypeIs (.ref it) "dict_itemiterator" := ⟨_,e,rfl⟩
  refine wpAny_pyIter_slot hT F.slot_dict_itemiterator_iter (wpAny_call_entry F.slot_dict_itemiterator_iter hT qbl ?_ (F.args_dict_itemiterator_iter_1 _))
  show wpAny _ _ (ret (.ref it)) _ _ s
  exact wpAny_pure ⟨_,rfl, "dict_itemiterator",_,hT,F.slot_dict_itemiterator_next.lookup,h⟩
def ql0 (to:TE):TI:=fun σ H R=>to σ H fun x H1=>∃ d kvs,x = .ref d/\((H1 d=some (.dT kvs)/\∀ o,R (ItiT d o) (upd H1 d (.frz o (.dT kvs))))\/∃ o,H1 d=some (.frz o (.dT kvs))/\R (ItiT d o) H1)
theorem Inv.frozenT {X:Cx}{pins:List (Addr × Obj)}{σ:St}{H:Hp}{s:Shared}{d:Addr}{kvs:List (List Key × V)}{R:Obj->Hp->Prop}(I:Inv X pins σ H s)(q:(H d=some (.dT kvs)/\∀ o,R o (upd H d (.frz o (.dT kvs))))\/∃ o,H d=some (.frz o (.dT kvs))/\R o H) :
  ∃ o H2,Inv X pins σ H2 s/\H2 d=some (.frz o (.dT kvs))/\R o H2:=by
 rcases q with ⟨e,q⟩ | ⟨o,e,q⟩
 ·obtain ⟨o,I2⟩:=I.freezeT e
  exact ⟨o,_,I2,uS,q o⟩
 ·exact ⟨o,H,I,e,q⟩
theorem qh5 {X:Cx}{elts:List Expr}{c:Nat}{tpos apos cpos:Pos}{o:Expr}{to:TE}(ho:PE X o to)(hbase:attributeBase o "items" X.env (eval o X.env)=eval o X.env:=by rfl)(hline:(apos.endLine == cpos.line)=true:=by rfl) :
  PI X (.Tuple elts c tpos) (.Call (.Attribute o "items" apos) [] [] cpos) (ql0 to):=by
 intro pins s σ H R I h
 refine wpAny_Call_method0_late hbase hline (thn (ho pins s σ H _ I h) fun v s1 ⟨x,H1,I1,r1,d,kvs,ex,q1⟩=>?_)
 subst ex
 cases r1
 obtain ⟨ob,H2,I2,e2,q⟩:=I1.frozenT (R:=fun o H=>R (ItiT d o) H) q1
 obtain ⟨lo,z,nd,es,ep,⟨ob',g1,x1,d1⟩,en⟩:=I2.entT (.inr ⟨ob,e2⟩)
 obtain ⟨g2,_⟩:=I2.hok d _ e2
 rw [g2] at g1; cases g1
 have de:DEnt s1.heap d es ep:=⟨ob,g2,x1,d1⟩
 refine ⟨"dict", "dict.items",F.plainAttrs_dict,F.slot_dict_items,F.type_dict_items,de.ty,(fun b e=>by cases e; exact ⟨ob,g2,x1.2.1⟩),Calls.callWith_builtin rfl (PySem.evalArgs_none ?_)⟩
 refine call_meetsIn F.slot_dict_items de.ty F.entry_dict_items (F.args_dict_items_1 _) (qdy lo) ⟨⟨es,ep,de⟩,?_⟩
 have I3:Inv X pins σ H2 { s1 with heap:=s1.heap.push { cls := .type "dict_items",data := .fields #[.ref d] } }:=I2.kept (t':=s1.toks) fun b u e=>Heap.get?_push_of_some _ e
 show wpAny _ _ (pyIter (.ref s1.heap.objs.size)) _ _ { s1 with heap:=s1.heap.push { cls := .type "dict_items",data := .fields #[.ref d] } }
 refine qeX (s:={ s1 with heap:=s1.heap.push { cls := .type "dict_items",data := .fields #[.ref d] } }) ⟨_,Heap.get?_push_size _ rfl,rfl,rfl⟩ (de.at fun o e=>Heap.get?_push_of_some _ e) fun h' ii k'=>?_
 refine ⟨_,[(s1.heap.push { cls := .type "dict_items",data := .fields #[.ref d] }).objs.size],_,_,H2,rfl,I3.kept (t':=s1.toks) k',qfl d1,⟨_,_,_,_,ii,.inl rfl⟩,fun b hb=>?_,q⟩
 rw [List.mem_singleton.mp hb]
 exact I3.fpOk (Nat.le_refl _) (I3.hok.fresh (Nat.le_refl _))
theorem qdZ {d:Addr}{o:Obj}{kws:List (List Int × V)}:qbQ (ItiT d o) kws.length (fun i H x H'=>∃ p b kw,x = .ref p/\H p=none/\H b=some (.tup (iv kw.1))/\H'=upd H p (.tup [.ref b,kw.2])/\kws[i]?=some kw) (fun H=>H d=some (.frz o (.dT (kws.map kI)))) :=
 ⟨fun i H hi h=>⟨_,kI kws[i],h,by simp [hi]⟩,fun i H x H' hi h ⟨p,b,kv,e1,e2,e3,e4,e5⟩=>by
  have:=e5 _ h
  rw [List.getElem?_map,Option.map_eq_some_iff] at this
  obtain ⟨kw,h1,h2⟩:=this
  subst h2
  exact ⟨p,b,kw,e1,e2,qgw e3,e4,h1⟩,fun H h=>⟨_,h,by simp⟩⟩
end L2
namespace L2
open PySem PySem.Spec PyProof.Rows
def qkE (p:Addr)(tk tv:TE):TB:=fun σ H Q=>tk σ H fun k H1=>tv σ H1 fun v H2=>∃ (b:Addr) (key:List Key) (kvs:List (List Key × V)),k = .ref b/\H2 b=some (.tup (key.map kV))/\H2 p=some (.dT kvs)/\kvs.length≤100000/\Q σ (upd H2 p (.dT (putK kvs key v)))
theorem qjS {X:Cx}{p:Addr}{kx vx:Expr}{tk tv:TE}(hu:X.A.units + 1 < cLine)(hk:PE X kx tk)(hv:PE X vx tv):PB X p (ql9 kx vx) (qkE p tk tv):=by
 intro pins s σ H Q I h
 show wpAny _ _ (do let kv <- eval kx X.env; let vv <- holding [kv] (eval vx X.env); standAt { kx.pos with endLine:=vx.pos.endLine,endCol:=vx.pos.endCol }; holding [kv,vv] (dictSet p kv vv)) _ _ s
 refine wpAny_bind (thn (hk pins s σ H _ I h) fun u s1 ⟨k,H1,I1,r1,h1⟩=>?_)
 refine wpAny_bind (wpAny_holding (thn (hv pins s1 σ H1 _ I1 h1) fun u' s2 ⟨v,H2,I2,r2,b,key,kvs,ek,eb,hH,hz,q⟩=>?_))
 subst ek
 cases r1
 refine wpAny_bind (wpAny_standAt (wpAny_holding ?_))
 obtain ⟨z,hd,xs,rel,dd⟩:=qm2 I2.hok hH
 have hvl:kvs.length=xs.length:=Paired.length rel
 refine wpAny_dictSet_heap (knd:=tupleKind (qap X.prog X.w)) (by show X.A.units < cLine; omega) (qeT I2.hok eb) dd (fun h' dd' hs=>?_) (by rw [sizeLine_eq]; omega)
 obtain ⟨qo,es,ep,hq,h2,h3,h4,_,h5⟩:=dd'
 refine ⟨σ,_,qb3 (ob := .dT (putK kvs key v)) I2 (by rw [hH]; exact True.intro) hs ⟨qo,hq⟩ ⟨?_,hd,_,(rel.put key eb r2).keeps fun c ys ec=>?_,qo,es,ep,hq,h2,h3,h4,h5⟩,q⟩
 ·have:=qbz kvs key v
  rw [sizeLine_eq]; omega
 ·rw [uE (qdt ec hH (fun z=>nomatch z))]
  exact ec
def qhC (σ0:St->St)(wi:TI)(g:TG)(tc:TT)(tk tv:TE):TE:=fun σ H Q=>wi σ H fun J H1=>∀ p,H1 p=none->qfW J g tc (qkE p tk tv) (σ0 σ) (upd H1 p (.dT [])) fun _ H'=>Q (.ref p) H'
theorem qhe {X:Cx}{kx vx tg iter:Expr}{ifs:List Expr}{scope:Scope}{pos pos2:Pos}{wi:TI}{g:TG}{tc:TT}{tk tv:TE}{N:List Str}{σ0:St->St}{pins:List (Addr × Obj)}{s:Shared}{σ:St}{H:Hp}{Q:VK}{use:Option (Value->Sem Unit)}{QQ:Value->Shared->Prop}
  (hu:X.A.units + 1 < cLine) (hc:X.calm=true) (hxe:∀ e s,X.xe e s->False) (hcell:∀ y∈scope.names,y.2 ≠ .cell) (hkind:scope.kind = .function) (hnames:∀ y∈scope.names,y.2 = .local->scope.names.lookup y.1=some .local)
  (hfr:∀ y∈scope.names,y.2 = .free->X.env.kindOf y.1=some .cell\/X.env.kindOf y.1=some .free) (hσ:Sees X scope N σ0)
  (hi:PI X tg iter wi)
  (hg:∀ cl C s H ex,PG (qah X scope N cl C s H ex) tg g) (ht:∀ cl C s H ex,PTs (qah X scope N cl C s H ex) ifs tc) (hk:∀ cl C s H ex,PE (qah X scope N cl C s H ex) kx tk) (hv:∀ cl C s H ex,PE (qah X scope N cl C s H ex) vx tv)
  (hs:∀ x,foldedSetIterable iter X.env x=pure x) (I:Inv X pins σ H s) (h:qhC σ0 wi g tc tk tv σ H Q)
  (hend:∀ (p C:Addr) (H':Hp) (s':Shared) (m:Str->Option Value) (f:Flow),Inv X pins σ H' s'->FpOk X pins H' C->s'.heap.Ns C m->(∀ h',Heap.SameBut C s'.heap h'->Inv X pins σ H' { s' with heap:=h' })->Q (.ref p) H' ->
    compPost (model X.prog X.w) X.A X.xe use QQ (.ref p) C (.ok f) s') :
  wpAny (model X.prog X.w) X.A (comprehension (.DictComp kx vx [⟨tg,iter,ifs,0⟩] scope pos) scope X.env pos2 newDict false (eval iter X.env) use) QQ X.xe s:=by
 obtain ⟨cl,hclos,hcl1,hcl2⟩:=qbu (env:=X.env) (scope:=scope) fun y hy hf=>I.ok.has y.1 (hfr y hy hf)
 refine wpAny_comprehension_free (use:=use) rfl hs hclos hkind hnames (thn (hi pins s σ H _ I h) fun v s1 h1=>thn h1 fun itv s2 h2=>?_)
 obtain ⟨it,fp,tn,J,H2,e,I2,T,st2,f2,h3⟩:=h2
 subst e
 have hpn:H2 s2.heap.objs.size=none:=I2.hok.fresh (Nat.le_refl _)
 have h4:=h3 _ hpn
 refine qbZ ?_
 generalize hp:s2.heap.objs.size=p at *
 have I3:Inv X pins σ (upd H2 p (.dT [])) { s2 with heap:=s2.heap.push { cls := .type "dict",data := .dict #[] } }:=by
  have q:=qgH (P:=X.prog) (w:=X.w) (H:=upd H2 s2.heap.objs.size (.dT [])) s2.heap I2.big
  rw [hp] at q
  exact I2.laid (a:=p) (o := .dT []) (t':=s2.toks) (fun b u q=>Heap.get?_push_of_some _ q) (Nat.le_of_eq hp) q
 have hf3:∀ b∈fp,FpOk X pins (upd H2 p (.dT [])) b:=fun b hb=>by
  obtain ⟨o,ho,_⟩:=T.obj _ _ st2 b hb
  have:b≠p:=by rw [<- hp]; exact Nat.ne_of_lt (Heap.lt_size ho)
  exact ⟨by rw [uE this]; exact (f2 b hb).1,(f2 b hb).2⟩
 generalize hs3:({ s2 with heap:=s2.heap.push { cls := .type "dict",data := .dict #[] } }:Shared)=s3 at *
 have st3:tn 0 s3.heap:=by rw [<- hs3]; exact T.keep _ _ _ st2 fun b _ o e=>Heap.get?_push_of_some _ e
 generalize hH3:upd H2 p (.dT [])=H3 at *
 refine wpAny_newFunctionEnv hcell (by intro y hy; simp at hy) (fun h1 hns1 hsb1=>?_) hkind
 generalize hC:s3.heap.objs.size=C at *
 have keep:∀ b u,s3.heap.get? b=some u->h1.get? b=some u:=fun b u q =>
  hsb1.extBut b u (by rw [<- hC]; exact Nat.ne_of_lt (Heap.lt_size q)) (Heap.get?_push_of_some _ q)
 have fpC:∀ b∈fp,b≠C:=fun b hb=>by
  obtain ⟨o,ho,_⟩:=T.obj _ _ st3 b hb
  rw [<- hC]; exact Nat.ne_of_lt (Heap.lt_size ho)
 have hCn:H3 C=none:=I3.hok.fresh (Nat.le_of_eq hC)
 have ok':(qah X scope N cl C s3 H3 fp).Ok:=by
  refine ⟨I3.mod,hkind,I3.ok.glob,I3.ok.blt,Nat.le_of_eq hC,fun x y c a b=>I3.ok.inj x y c (hcl1 x c a) (hcl1 y c b),fun x hx=>?_,fun _ _ z=>Bool.noConfusion (show false=true from z),I3.ok.hd,I3.ok.frames,.inl rfl,fun b hb=>⟨fpC b hb,fun x c q=>(hf3 b hb).2.2.2.2.1 x c (hcl1 x c q)⟩,
   I3.bs,Nat.le_trans I3.ok.bsz I3.sz,fun b o e hb=>?_,fun b hb z=>?_,I3.stack,I3.stkFree⟩
  ·have hx':(relabel scope X.env).names.lookup x=some .cell\/(relabel scope X.env).names.lookup x=some .free:=hx
   rcases hx' with z | z
   ·rcases qaj z with y | ⟨_,y⟩
    ·exact absurd rfl (hcell _ y)
    ·exact hcl2 x y
   ·rcases qaj z with y | ⟨y,_⟩
    ·exact hcl2 x y
    ·cases y
  ·rcases (hf3 b hb).2.2.2.1 with z | z
   ·exact I3.ok.noex b o e z
   ·exact absurd (Nat.lt_of_lt_of_le (Heap.lt_size e) (Nat.le_trans I3.ok.bsz z)) (Nat.lt_irrefl _)
  ·rcases List.mem_cons.mp (I3.stkSub b z) with q | q
   ·exact (hf3 b hb).2.1 q
   ·exact (hf3 b hb).2.2.1 q
 have J0:Inv (qah X scope N cl C s3 H3 fp) [] (σ0 σ) H3 { s3 with heap:=h1,toks:=s3.toks + ([]:List (Str × Value)).length }:=by
  refine ⟨ok',rfl,I3.bare,Un.kept keep,⟨_,hns1,fun i x v a b c=>?_⟩,fun x c q=>?_,hCn,fun x c q=>I3.freeC x c (hcl1 x c q),fun q hq=>absurd (show q∈([]:List (Addr × Obj)) from hq) (by simp),I3.hok.kept keep,(hσ σ).1⟩
  ·obtain ⟨hf,j,hj,hv⟩:=(hσ σ).2 i x v a b
   have hm:=qaQ hf
   obtain ⟨m,hn,hl⟩:=id I3.loc
   have hk:=hfr _ hm rfl
   have hvis:Vis X.env.scope x:=hk.elim (fun z => .inr (.inl z)) fun z => .inr (.inr z)
   obtain ⟨u,r,lk⟩:=hl j x v hj hv hvis
   refine ⟨u,r,.inr ⟨qar hf,?_⟩⟩
   obtain ⟨c',hc'⟩:=hcl2 x hm
   refine ⟨c',hc',?_⟩
   have hx:=hcl1 x c' hc'
   rcases lk with ⟨kl,_⟩ | ⟨_,c2,e2,o2,ho2,hd2⟩
   ·rcases hk with z | z <;> rw [kl] at z <;> cases z
   ·rw [hx] at e2
    cases e2
    exact ⟨o2,keep _ _ ho2,hd2⟩
  ·obtain ⟨v,o,ho,hd⟩:=I3.cell x c (hcl1 x c q)
   exact ⟨v,o,keep _ _ ho,hd⟩
 have st4:tn 0 h1:=T.keep _ _ _ st3 fun b _ o e=>keep b o e
 have stat:∀ {H':Hp},(∀ b∈fp,H' b=none)->∀ b∈fp,FpOk (qah X scope N cl C s3 H3 fp) [] H' b:=fun hn b hb =>
  ⟨hn b hb,fpC b hb,fun z=>ok'.exfs b hb z,.inl hb,fun x c q=>(hf3 b hb).2.2.2.2.1 x c (hcl1 x c q),fun q hq=>absurd (show q∈([]:List (Addr × Obj)) from hq) (by simp)⟩
 have back:∀ {σ':St} {H':Hp} {s':Shared} {pl:List (Addr × Obj)},Inv (qah X scope N cl C s3 H3 fp) pl σ' H' s'->∀ h',Heap.SameBut C s'.heap h'->Inv X pins σ H' { s' with heap:=h' }:=fun {σ' H' s' pl} J h' hsb=>by
  have I5:Inv X pins σ H' s':=Inv.call' (ch:=fp) I3 J.os J.base J.hok J.bare fun b hb=>⟨(hf3 b hb).2.2.2.1,(hf3 b hb).2.1,(hf3 b hb).2.2.2.2.1,(hf3 b hb).2.2.2.2.2⟩
  refine Inv.turned (it:=C) (t':=s'.toks) I5 (fun b o hb e=>hsb.extBut b o hb e) J.free (fun z=>?_) (.inr ?_) (fun x c q z=>?_) fun q hq z=>?_
  ·exact absurd (show X.env.locals < C by rw [<- hC]; exact I3.lt) (by rw [z]; exact Nat.lt_irrefl _)
  ·rw [<- hC]; exact I3.sz
  ·obtain ⟨v,o,ho,_⟩:=I3.cell x c q
   have:=Heap.lt_size ho
   rw [z,hC] at this
   exact Nat.lt_irrefl _ this
  ·have:=Heap.lt_size (I3.pin q hq).1
   rw [z,hC] at this
   exact Nat.lt_irrefl _ this
 have ff:∀ b∈fp,FpOk (qah X scope N cl C s3 H3 fp) [] H3 b:=stat fun b hb=>(hf3 b hb).1
 have loop:codeAny (model X.prog X.w) X.A (.compLoop (.DictComp kx vx [⟨tg,iter,ifs,0⟩] scope pos) 0 (.ref it) (.ref p) (compEnvC scope cl C X.env)) (compPost (model X.prog X.w) X.A X.xe use QQ (.ref p) C) { s3 with heap:=h1,toks:=s3.toks + ([]:List (Str × Value)).length }:=by
  refine qgr (X:=qah X scope N cl C s3 H3 fp) (Q:=fun _ H'=>Q (.ref p) H') (qkB _ _ _ _ _ _ _ _ _ _) hc hxe T (hg cl C s3 H3 fp) (ht cl C s3 H3 fp) (qjS hu (hk cl C s3 H3 fp) (hv cl C s3 H3 fp)) J0 st4 ff h4 ?_
  intro s4 σ' H' I4 q
  obtain ⟨m,hn,_⟩:=id I4.loc
  have I5:Inv X pins σ H' s4:=Inv.call' (ch:=fp) I3 I4.os I4.base I4.hok I4.bare fun b hb=>⟨(hf3 b hb).2.2.2.1,(hf3 b hb).2.1,(hf3 b hb).2.2.2.2.1,(hf3 b hb).2.2.2.2.2⟩
  exact hend p C H' s4 m _ I5 (I3.fpOk (Nat.le_of_eq hC) I4.free) hn (fun h' hsb=>back I4 h' hsb) q
 exact codeAny_compStart_dict loop (T.self X.A 0 _ _ _ st4 loop)
theorem qh6 {X:Cx}{kx vx tg iter:Expr}{ifs:List Expr}{scope:Scope}{pos:Pos}{wi:TI}{g:TG}{tc:TT}{tk tv:TE}{N:List Str}{σ0:St->St}
  (hu:X.A.units + 1 < cLine) (hc:X.calm=true) (hxe:∀ e s,X.xe e s->False) (hcell:∀ y∈scope.names,y.2 ≠ .cell) (hkind:scope.kind = .function) (hnames:∀ y∈scope.names,y.2 = .local->scope.names.lookup y.1=some .local)
  (hfr:∀ y∈scope.names,y.2 = .free->X.env.kindOf y.1=some .cell\/X.env.kindOf y.1=some .free) (hσ:Sees X scope N σ0)
  (hi:PI X tg iter wi)
  (hg:∀ cl C s H ex,PG (qah X scope N cl C s H ex) tg g) (ht:∀ cl C s H ex,PTs (qah X scope N cl C s H ex) ifs tc) (hk:∀ cl C s H ex,PE (qah X scope N cl C s H ex) kx tk) (hv:∀ cl C s H ex,PE (qah X scope N cl C s H ex) vx tv)
  (hs:∀ x,foldedSetIterable iter X.env x=pure x:=by intro _; rfl):PE X (.DictComp kx vx [⟨tg,iter,ifs,0⟩] scope pos) (qhC σ0 wi g tc tk tv):=by
 intro pins s σ H Q I h
 show wpAny _ X.A (comprehension (.DictComp kx vx [⟨tg,iter,ifs,0⟩] scope pos) scope X.env _ newDict false (eval iter X.env) none) _ _ s
 refine qhe (use:=none) (QQ:=EP X pins σ Q) hu hc hxe hcell hkind hnames hfr hσ hi hg ht hk hv hs I h ?_
 intro p C H' s' m f I5 fC hn back q
 exact ⟨m,hn,fun h' hsb=>⟨.ref p,H',back h' hsb,rfl,q⟩⟩
end L2
namespace L2
open PySem PySem.W PySem.Spec PyProof.Rows DI Srt
end L2
namespace L2
open PySem PySem.Spec PyProof.Rows Srt
abbrev Mp:=List (List Int × Int)
def kII (p:List Int × Int):List Key × V:=(p.1.map Sum.inl,.int p.2)
def dI (m:Mp):HO := .dT (m.map kII)
def hasM (m:Mp)(k:List Int):Bool:=m.any fun p=>decide (p.1=k)
def getM (m:Mp)(k:List Int):Int:=((m.find? fun p=>decide (p.1=k)).map (·.2)).getD 0
def putM (m:Mp)(k:List Int)(v:Int):Mp:=if hasM m k=true then m.map (fun p=>if p.1=k then (p.1,v) else p) else m ++ [(k,v)]
def qaf (m:Mp):List (List Int):=m.map (·.1)
def addM (m:Mp)(r:List Int × Int):Mp:=putM m r.1 (getM m r.1 + r.2)
def gath (rows:Mp):Mp:=rows.foldl addM []
theorem qfM {a b:List Int}:a.map (Sum.inl:Int->Key)=b.map Sum.inl↔a=b:=List.map_inj_right fun _ _ e=>Sum.inl.inj e
theorem qmb (a b:List Int):decide (a.map (Sum.inl:Int->Key)=b.map Sum.inl)=decide (a=b):=by
 by_cases e:a=b
 ·subst e; simp
 ·rw [decide_eq_false e,decide_eq_false (fun z=>e (qfM.mp z))]
theorem qne (m:Mp)(k:List Int):((m.map kII).any fun kv=>decide (kv.1=k.map Sum.inl))=hasM m k:=by
 unfold hasM
 rw [List.any_map]
 congr 1
 funext p
 exact qmb p.1 k
theorem qhZ (m:Mp)(k:List Int)(v:Int):putK (m.map kII) (k.map Sum.inl) (.int v)=(putM m k v).map kII:=by
 unfold putK putM
 rw [qne]
 by_cases h:hasM m k=true
 ·rw [if_pos h,if_pos h,List.map_map,List.map_map]
  refine List.map_congr_left fun p _=>?_
  by_cases e:p.1=k
  ·simp [kII,e]
  ·simp [kII,e,qfM]
 ·rw [if_neg h,if_neg h,List.map_append]; rfl
theorem qhs:∀ (m:Mp) (k:List Int),valV (m.map kII) (k.map Sum.inl)=(m.find? fun p=>decide (p.1=k)).map fun p=>V.int p.2
 | [],_=>rfl
 | p :: m,k=>by
  rw [List.map_cons,List.find?_cons]
  by_cases e:p.1=k
  ·rw [qb7 (by simp [kII,e]),decide_eq_true e]; rfl
  ·rw [qcL (by simp [kII,qfM,e]),decide_eq_false e]; exact qhs m k
theorem qhr (m:Mp)(k:List Int):(valV (m.map kII) (k.map Sum.inl)).getD (.int 0) = .int (getM m k):=by
 rw [qhs]; unfold getM
 cases m.find? fun p=>decide (p.1=k) <;> rfl
theorem qbV {m:Mp}{k:List Int}:hasM m k=true↔k∈qaf m:=by
 unfold hasM qaf
 rw [List.any_eq_true,List.mem_map]
 simp
theorem qgC (k:List Int):getM [] k=0:=rfl
theorem qaI (p:List Int × Int)(m:Mp)(k:List Int):getM (p :: m) k=if p.1=k then p.2 else getM m k:=by
 unfold getM
 rw [List.find?_cons]
 by_cases e:p.1=k
 ·rw [decide_eq_true e,if_pos e]; rfl
 ·rw [decide_eq_false e,if_neg e]
theorem qfN {m:Mp}{k:List Int}(h:k ∉ qaf m):getM m k=0:=by
 induction m with
 | nil=>rfl
 | cons p m ih =>
  rw [qaI,if_neg (fun e=>h (by simp [qaf,e])),ih fun z=>h (by simp only [qaf,List.map_cons,List.mem_cons] at *; exact .inr z)]
theorem qcS {m:Mp}(nd:(qaf m).Nodup){p:List Int × Int}(h:p∈m):getM m p.1=p.2:=by
 induction m with
 | nil=>cases h
 | cons q m ih =>
  rw [qaI]
  simp only [qaf,List.map_cons,List.nodup_cons] at nd
  rcases List.mem_cons.mp h with rfl | h
  ·rw [if_pos rfl]
  ·rw [if_neg (fun e=>nd.1 (by rw [e]; exact List.mem_map_of_mem h)),ih nd.2 h]
theorem qgv (m:Mp)(k:List Int)(v:Int):qaf (putM m k v)=if hasM m k=true then qaf m else qaf m ++ [k]:=by
 unfold putM
 by_cases h:hasM m k=true
 ·rw [if_pos h,if_pos h]
  unfold qaf
  rw [List.map_map]
  refine List.map_congr_left fun p _=>?_
  by_cases e:p.1=k <;> simp [e]
 ·rw [if_neg h,if_neg h]; simp [qaf]
theorem qeS {m:Mp}{k j:List Int}{v:Int}:j∈qaf (putM m k v)↔j∈qaf m\/j=k:=by
 rw [qgv]
 by_cases h:hasM m k=true
 ·rw [if_pos h]
  exact ⟨.inl,fun z=>z.elim id fun e=>by rw [e]; exact qbV.mp h⟩
 ·rw [if_neg h]; simp
theorem qin {m:Mp}{k:List Int}{v:Int}(h:(qaf m).Nodup):(qaf (putM m k v)).Nodup:=by
 rw [qgv]
 by_cases e:hasM m k=true
 ·rw [if_pos e]; exact h
 ·rw [if_neg e]
  refine List.nodup_append.mpr ⟨h,by simp,fun x hx y hy z=>?_⟩
  rw [List.mem_singleton] at hy
  subst hy z
  exact e (qbV.mpr hx)
theorem qeZ (m:Mp)(k j:List Int)(v:Int):getM (m.map fun p=>if p.1=k then (p.1,v) else p) j=if j=k/\hasM m k=true then v else getM m j:=by
 induction m with
 | nil=>simp [hasM,qgC]
 | cons p m ih =>
  rw [List.map_cons,qaI,qaI,ih]
  have hh:hasM (p :: m) k=(decide (p.1=k) || hasM m k):=rfl
  rw [hh]
  by_cases e:p.1=k
  ·rw [if_pos e,decide_eq_true e]
   by_cases ej:p.1=j
   ·rw [if_pos ej,if_pos ⟨ej.symm.trans e,rfl⟩]
   ·have:j≠k:=fun z=>ej (e.trans z.symm)
    rw [if_neg ej,if_neg (fun z=>this z.1),if_neg (fun z=>this z.1),if_neg ej]
  ·rw [if_neg e,decide_eq_false e,Bool.false_or]
   by_cases ej:p.1=j
   ·have:j≠k:=fun z=>e (ej.trans z)
    rw [if_pos ej,if_neg (fun z=>this z.1),if_pos ej]
   ·rw [if_neg ej,if_neg ej]
theorem qiH (m:Mp)(k j:List Int)(v:Int)(h:k ∉ qaf m):getM (m ++ [(k,v)]) j=if j=k then v else getM m j:=by
 induction m with
 | nil =>
  rw [List.nil_append,qaI]
  by_cases e:k=j
  ·rw [if_pos e,if_pos e.symm]
  ·rw [if_neg e,if_neg (fun z=>e z.symm)]
 | cons p m ih =>
  rw [List.cons_append,qaI,qaI,ih fun z=>h (by simp only [qaf,List.map_cons,List.mem_cons] at *; exact .inr z)]
  by_cases ej:p.1=j
  ·have:j≠k:=fun z=>h (by simp [qaf,ej.trans z])
   rw [if_pos ej,if_pos ej,if_neg this]
  ·rw [if_neg ej,if_neg ej]
theorem qkl (m:Mp)(k j:List Int)(v:Int):getM (putM m k v) j=if j=k then v else getM m j:=by
 unfold putM
 by_cases h:hasM m k=true
 ·rw [if_pos h,qeZ]
  by_cases e:j=k <;> simp [e,h]
 ·rw [if_neg h,qiH _ _ _ _ fun z=>h (qbV.mpr z)]
def qfn (rows:Mp)(k:List Int):Int:=(rows.map fun r=>if r.1=k then r.2 else 0).sum
def qau (m:Mp):List Int:=m.map (·.2)
theorem qjs {m:Mp}(nd:(qaf m).Nodup)(k:List Int)(v:Int):(qau (putM m k (getM m k + v))).sum=(qau m).sum + v:=by
 unfold putM
 by_cases h:hasM m k=true
 ·rw [if_pos h]
  have hk:∀ (m:Mp),(qaf m).Nodup->k∈qaf m->(qau (m.map fun p=>if p.1=k then (p.1,getM m k + v) else p)).sum=(qau m).sum + v:=by
   intro m
   have gen:∀ (m:Mp) (g:Int),(qaf m).Nodup->(k∈qaf m->g=getM m k)->(qau (m.map fun p=>if p.1=k then (p.1,g + v) else p)).sum=(qau m).sum + if k∈qaf m then v else 0:=by
    intro m g
    induction m with
    | nil=>intro _ _; simp [qau,qaf]
    | cons p m ih =>
     intro nd hg
     simp only [qaf,List.map_cons,List.nodup_cons] at nd
     have hk':k∈qaf (p :: m)↔k=p.1\/k∈qaf m:=by simp [qaf]
     by_cases e:p.1=k
     ·have hnk:k ∉ qaf m:=by rw [<- e]; exact nd.1
      have hgv:g=p.2:=by rw [hg (hk'.mpr (.inl e.symm)),qaI,if_pos e]
      have:=ih nd.2 (fun z=>absurd z hnk)
      rw [if_neg hnk] at this
      simp only [qau,List.map_cons,List.sum_cons] at this ⊢
      rw [if_pos e,if_pos (hk'.mpr (.inl e.symm))]
      rw [this,hgv]; omega
     ·have:=ih nd.2 (fun z=>by rw [hg (hk'.mpr (.inr z)),qaI,if_neg e])
      simp only [qau,List.map_cons,List.sum_cons] at this ⊢
      rw [if_neg e,this]
      by_cases z:k∈qaf m
      ·rw [if_pos z,if_pos (hk'.mpr (.inr z))]; omega
      ·rw [if_neg z,if_neg (fun q=>(hk'.mp q).elim (fun r=>e r.symm) z)]; omega
   intro nd hm
   have:=gen m (getM m k) nd fun _=>rfl
   rwa [if_pos hm] at this
  exact hk m nd (qbV.mp h)
 ·rw [if_neg h]
  rw [qfN fun z=>h (qbV.mpr z)]
  simp [qau]
theorem qe0 (rows:Mp)(r:List Int × Int):gath (rows ++ [r])=addM (gath rows) r:=by unfold gath; rw [List.foldl_append]; rfl
theorem qgZ (rows:Mp)(r:List Int × Int)(k:List Int):qfn (rows ++ [r]) k=qfn rows k + if r.1=k then r.2 else 0:=by unfold qfn; simp
theorem qcj:∀ (n:Nat) (rows:Mp),rows.length=n->(qaf (gath rows)).Nodup/\(∀ k,getM (gath rows) k=qfn rows k)/\(∀ k,k∈qaf (gath rows)↔k∈qaf rows)/\(qau (gath rows)).sum=(qau rows).sum
 | 0,rows,h=>by
  have:rows=[]:=List.length_eq_zero_iff.mp h
  subst this
  exact ⟨List.nodup_nil,fun _=>rfl,fun _=>Iff.rfl,rfl⟩
 | n + 1,rows,h=>by
  obtain ⟨l,r,rfl⟩:∃ l r,rows=l ++ [r]:=by
   rcases List.eq_nil_or_concat rows with e | ⟨l,r,e⟩
   ·subst e; simp at h
   ·exact ⟨l,r,by rw [e,List.concat_eq_append]⟩
  obtain ⟨h1,h2,h3,h4⟩:=qcj n l (by simpa using h)
  rw [qe0]
  refine ⟨qin h1,fun k=>?_,fun k=>?_,?_⟩
  ·unfold addM
   rw [qkl,qgZ,h2,h2]
   by_cases e:k=r.1
   ·subst e; rw [if_pos rfl,if_pos rfl]
   ·rw [if_neg e,if_neg (fun z=>e z.symm)]; omega
  ·unfold addM
   rw [qeS,h3]
   simp [qaf,or_comm]
  ·unfold addM
   rw [qjs h1,h4]
   simp [qau]
theorem qdR (rows:Mp):(qaf (gath rows)).Nodup:=(qcj _ rows rfl).1
theorem qkn (rows:Mp)(k:List Int):getM (gath rows) k=qfn rows k:=(qcj _ rows rfl).2.1 k
theorem qdk (rows:Mp)(k:List Int):k∈qaf (gath rows)↔k∈qaf rows:=(qcj _ rows rfl).2.2.1 k
theorem qgD (rows:Mp):(qau (gath rows)).sum=(qau rows).sum:=(qcj _ rows rfl).2.2.2
theorem qd4 {a b:List Int}(h:a.Perm b):a.sum=b.sum:=by
 induction h with
 | nil=>rfl
 | cons x _ ih=>simp [ih]
 | swap x y l=>simp; omega
 | trans _ _ h1 h2=>exact h1.trans h2
def tot (m:Mp)(f:List Int->Int):Int:=(m.map fun p=>p.2 * f p.1).sum
theorem qf1 {m:Mp}(nd:(qaf m).Nodup)(f:List Int->Int):tot m f=((qaf m).map fun k=>getM m k * f k).sum:=by
 unfold tot qaf
 rw [List.map_map]
 congr 1
 refine List.map_congr_left fun p hp=>?_
 show _=getM m p.1 * f p.1
 rw [qcS nd hp]
theorem qcZ (l:List Int)(c:Int):(l.map fun a=>a * c).sum=l.sum * c:=by
 induction l with
 | nil=>simp
 | cons a l ih=>simp [ih,Int.add_mul]
def qa6 (m:Mp)(g:List Int->Mp):Mp:=m.flatMap fun p=>(g p.1).map fun q=>(q.1,p.2 * q.2)
theorem qfm {α:Type}(l:List α)(f:α->List Int):(l.flatMap f).sum=(l.map fun a=>(f a).sum).sum:=by
 induction l with
 | nil=>rfl
 | cons a l ih=>rw [List.flatMap_cons,List.sum_append,List.map_cons,List.sum_cons,ih]
theorem qeR {m:Mp}{g:List Int->Mp}{k:List Int}:k∈qaf (qa6 m g)↔∃ l∈qaf m,k∈qaf (g l):=by
 unfold qaf qa6
 simp only [List.map_flatMap,List.mem_flatMap,List.map_map,List.mem_map]
 constructor
 ·rintro ⟨p,hp,q,hq,rfl⟩; exact ⟨p.1,⟨p,hp,rfl⟩,q,hq,rfl⟩
 ·rintro ⟨_,⟨p,hp,rfl⟩,q,hq,rfl⟩; exact ⟨p,hp,q,hq,rfl⟩
theorem qhq (m:Mp)(g:List Int->Mp):(qau (qa6 m g)).sum=tot m fun l=>(qau (g l)).sum:=by
 unfold qau qa6 tot
 rw [List.map_flatMap,qfm]
 congr 1
 refine List.map_congr_left fun p _=>?_
 rw [List.map_map,Int.mul_comm,<- qcZ,List.map_map]
 congr 1
 exact List.map_congr_left fun q _=>Int.mul_comm _ _
theorem qhy {m:Mp}{f:List Int->Int}{c:Int}(h:∀ k∈qaf m,f k=c):tot m f=(qau m).sum * c:=by
 unfold tot qau
 rw [<- qcZ,List.map_map]
 congr 1
 exact List.map_congr_left fun p hp=>by rw [h p.1 (List.mem_map_of_mem hp)]; rfl
def rise (ks:List (List Int)):List (List Int):=ks.mergeSort fun a b=>!lexI b a
theorem qec {a b:List (List Int)}(h:a.Perm b)(ha:qdr a)(hb:qdr b):a=b :=
 List.Perm.eq_of_pairwise (le:=fun x y=>lexI y x=false) (fun x y _ _ h1 h2=>qgs x y h2 h1) ha hb h
theorem qaX (ks:List (List Int)):(rise ks).Perm ks:=List.mergeSort_perm ks _
theorem qfv (ks:List (List Int)):qdr (rise ks):=by
 have:=List.pairwise_mergeSort (le:=fun a b=>!lexI b a) (fun a b c h1 h2=>by simp at *; exact qfK _ _ _ h1 h2) (fun a b=>by
  cases h:lexI b a with
  | false=>simp
  | true=>simp [qdh _ _ h]) ks
 exact this.imp fun {a b} h=>by simpa using h
theorem qli {ms ks:List (List Int)}(h:ms.Perm ks)(hr:qdr ms):ms=rise ks:=qec (h.trans (qaX ks).symm) hr (qfv ks)
theorem qk2 {A:Around}{k:Nat}(hr:Room k A):A.units + 2 < cLine:=by have:=hr.un; omega
theorem qdw {K:PySem.W.Frag}{a b:Addr}{xs ys:List V}(hl:xs.length=ys.length):qbQ (Itz K a b) xs.length (fun i H v H'=>∃ p x y,v = .ref p/\H p=none/\H'=upd H p (.tup [x,y])/\xs[i]?=some x/\ys[i]?=some y) (fun H=>H a=some (.lst xs)/\H b=some (.lst ys)) :=
 ⟨fun i H hi o=>⟨xs,ys,xs[i],ys[i],SqL.of o.1,SqL.of o.2,by simp [hi],by simp [hl ▸ hi]⟩,
  fun i H v H' hi o ⟨p,x,y,e1,e2,e3,e4⟩=>⟨p,x,y,e1,e2,e3,e4 xs ys (SqL.of o.1) (SqL.of o.2)⟩,
  fun H o=>⟨xs,ys,SqL.of o.1,SqL.of o.2,.inl (Nat.le_refl _)⟩⟩
theorem qeu {K:PySem.W.Frag}{a:Addr}{xs:List V}:qbQ (ItE K false a) xs.length (fun i H v H'=>∃ p x,v = .ref p/\H p=none/\H'=upd H p (.tup [.int i,x])/\xs[i]?=some x) (fun H=>H a=some (.tup xs)) :=
 ⟨fun i H hi o=>⟨xs,xs[i],(SqT.of o),by simp [hi]⟩,fun i H v H' hi o ⟨p,x,e1,e2,e3,e4⟩=>⟨p,x,e1,e2,e3,e4 xs (SqT.of o)⟩,fun H o=>⟨xs,(SqT.of o),Nat.le_refl _⟩⟩
structure Weak (J J':It):Prop where
 go:∀ i H,J'.go i H->J.go i H
 yld:∀ i H x H',J'.go i H->J.yld i H x H'->J'.yld i H x H'
 stop:∀ i H,J'.stop i H->J.stop i H
theorem Turn.weak {P:Program}{w:World}{K:PySem.W.Frag}{tg:Expr}{J J':It}{fp:List Addr}{it:Addr}{tn:Nat->Heap->Prop}(T:Turn P w K tg J fp it tn)(h:Weak J J'):Turn P w K tg J' fp it tn where
 mem:=T.mem
 obj:=T.obj
 keep:=T.keep
 item:=fun X hP hw hK hc i pins s σ H E I hf st hg=>thn (T.item X hP hw hK hc i pins s σ H E I hf st (h.go i H hg)) fun r s1 ⟨u,hr,q⟩=>⟨u,hr,thn q fun _ s2 ⟨x,H',a,b,c,d⟩=>⟨x,H',a,b,h.yld i H x H' hg c,d⟩⟩
 done:=fun X hP hw hK hc i pins s σ H E I hf st hg=>T.done X hP hw hK hc i pins s σ H E I hf st (h.stop i H hg)
 self:=T.self
def ItEL (a:Addr):It :=
 ⟨fun i H=>∃ xs x,H a=some (.lst xs)/\xs[i]?=some x,fun i H v H'=>∃ p x,v = .ref p/\H p=none/\H'=upd H p (.tup [.int i,x])/\∀ xs,H a=some (.lst xs)->xs[i]?=some x,fun i H=>∃ xs,H a=some (.lst xs)/\xs.length≤i⟩
def qmU (ta:TA):TI:=fun σ H R=>ta σ H fun vs H1=>∃ a xs,vs=[.ref a]/\H1 a=some (.lst xs)/\R (ItEL a) H1
theorem qml (K:PySem.W.Frag)(a:Addr):Weak (ItE K true a) (ItEL a) :=
 ⟨fun i H ⟨xs,x,h,e⟩=>⟨xs,x,SqL.of h,e⟩,fun i H x H' _ ⟨p,y,e1,e2,e3,e4⟩=>⟨p,y,e1,e2,e3,fun xs h=>e4 xs (SqL.of h)⟩,fun i H ⟨xs,h,e⟩=>⟨xs,SqL.of h,e⟩⟩
theorem qjM {X:Cx}{elts:List Expr}{c:Nat}{tpos:Pos}{a:Expr}{ta:TA}{p pos:Pos}(hg:Gl X "enumerate")(hm:X.mg "enumerate" = none)(ha:PA X [a] ta)(hs:starEach [a] X.env=[(false,eval a X.env)]:=by rfl) :
  PI X (.Tuple elts c tpos) (.Call (.Name "enumerate" p) [a] [] pos) (qmU ta):=by
 intro pins s σ H R I h
 refine Call_ (qcG I hg hm boot_enumerate (PyProof.Rows.callWith_type1 (thn (ha pos pins s σ H _ I h) fun us s1 ⟨vs,H1,I1,r1,q1⟩=>?_) hs rfl))
 obtain ⟨a,xs,e,hq,q⟩:=q1
 subst e
 cases r1 with
 | cons r rr =>
  cases rr
  cases r
  obtain ⟨its1,rv1,p1,_⟩:=I1.seqB (b:=true) (a:=a) (xs:=xs) (SqL.of hq)
  have la:=p1.lt
  refine qdX p1 fun h' a1 a2 hk=>wpAny_pyIter_enum a1 ?_
  refine ⟨_,_,_,_,H1,rfl,I1.kept (t':=s1.toks) hk,(qdz (e:=s1.heap.objs.size + 1) (it:=s1.heap.objs.size) (Nat.succ_ne_self _) ?_ ?_).weak (qml _ _),⟨⟨_,a1⟩,a2⟩,fun x hx=>?_,q⟩
  ·exact Nat.ne_of_gt (Nat.lt_succ_of_lt la)
  ·exact Nat.ne_of_lt la
  ·have hx':s1.heap.objs.size≤x:=by
    simp only [List.mem_cons,List.not_mem_nil,or_false] at hx
    rcases hx with rfl | rfl <;> (show (_:Nat)≤(_:Nat)) <;> omega
   exact I1.fpOk hx' (I1.hok.fresh hx')
theorem qgP {a:Addr}{xs:List V}:qbQ (ItEL a) xs.length (fun i H v H'=>∃ p x,v = .ref p/\H p=none/\H'=upd H p (.tup [.int i,x])/\xs[i]?=some x) (fun H=>H a=some (.lst xs)) :=
 ⟨fun i H hi o=>⟨xs,xs[i],o,by simp [hi]⟩,fun i H v H' hi o ⟨p,x,e1,e2,e3,e4⟩=>⟨p,x,e1,e2,e3,e4 xs o⟩,fun H o=>⟨xs,o,Nat.le_refl _⟩⟩
end L2
namespace L2
open PySem PySem.Spec PyProof.Rows
end L2
namespace My
open PySem L2
end My
namespace L2
open PySem PySem.Spec PyProof.Rows PySem.W
section
variable {X:Cx}{pins:List (Addr × Obj)}{σ:St}{H:Hp}{b:Bool}{l I S:Addr}{xs:List V}{kf:Nat->Int}{bt:Nat->Nat->Bool}{R:Result->Shared->Prop}
theorem qir (hh:X.A.in1.handled=none)(sq:SqB X.K H b l xs)(hlI:l≠I)(hSI:S≠I)(fI:FpOk X pins H I)(fS:FpOk X pins H S)
  (lt:∀ (s':Shared) (i j:Nat) (v z:V) (u y:Value),Inv X pins σ H s'->xs[i]?=some v->xs[j]?=some z->RelV v u->RelV z y->SeqAt.RcLtAt X.A.in1 s' u y (bt i j))
  (hlo:∀ i j,bt i j=true->kf i≤kf j) (hhi:∀ i j,bt i j=false->kf j≤kf i)
  (hR:∀ (i:Nat) (v:V) (u:Value) (s':Shared),xs[i]?=some v->RelV v u->(∀ j,j < xs.length->kf i≤kf j)->Inv X pins σ H s'->R (.ok (.ret u)) s') :
  ∀ (r j i:Nat) (s:Shared) (vb:V) (ub:Value) (c:Nat),xs.length - (j + 1)=r->j + 1≤xs.length->Inv X pins σ H s->qcz s.heap b I l (j + 1)->s.heap.get? S=some (seqObj "list" #[ub,ub] c) ->
   xs[i]?=some vb->RelV vb ub->i≤j->(∀ j',j'≤j->kf i≤kf j')->codeAny (model X.prog X.w) X.A (.builtin "min.loop" ⟨[.ref I,.none,.ref S],[]⟩) R s:=by
 have hname:(toString "min" ++ toString ".loop" : String) = "min.loop" := by decide
 have fpI:∀ b∈[I],FpOk X pins H b:=fun b hb=>by rw [List.mem_singleton.mp hb]; exact fI
 have fpS:∀ b∈[S],FpOk X pins H b:=fun b hb=>by rw [List.mem_singleton.mp hb]; exact fS
 have fpB:∀ b∈[I,S],FpOk X pins H b:=fun b hb=>by
  rcases List.mem_cons.mp hb with rfl | hb
  ·exact fI
  ·exact fpS b hb
 intro r
 induction r with
 | zero =>
  intro j i s vb ub c hr hj J hit hS hvb rvb hij hbest
  obtain ⟨its,rv,p,hz⟩:=J.seqB sq
  have hlen:=rv.length
  have hin:j + 1=its.toArray.size:=by rw [List.size_toArray]; omega
  refine codeAny_builtin PySem.F.entry_min_loop ?_
  rw [Around.under_plainId PySem.F.plain_min_loop _]
  show wpAny _ X.A.in1 (seqItems? (.ref S) >>= _) _ _ _
  refine wpAny_bind (wpAny_seqItems hS rfl ?_)
  show wpAny _ X.A.in1 (tryCatch (pyNext (.ref I)) _ >>= _) _ _ _
  refine wpAny_bind (wpAny_tryCatch ((qhp hh b I l hlI its.toArray).done _ _ _ ⟨by rw [<- hin]; exact hit,p⟩ fun h' tk' hk'=>?_))
  have J1:Inv X pins σ H { s with heap:=h',toks:=tk' }:=J.turnedL (t':=tk') fpI fun b o hb e=>hk' b o hb e
  have hS':=hk' S _ (by simpa using hSI) hS
  have s1:=Heap.SameBut.update h' S (Obj.mapSeq fun _=>(#[]:Array Value))
  show wpAny _ X.A.in1 (updateSeq S (fun _=>#[]) >>= _) _ _ _
  refine wpAny_bind ?_
  refine wpAny_updateSeq hS' rfl (wpAny_bind (wpAny_letGo (wpAny_pure ?_)))
  exact hR i vb ub _ hvb rvb (fun j' hj'=>hbest j' (by omega)) (J1.turnedL (t':=tk') fpS fun b o hb e=>(s1.2 b (by simpa using hb)).trans e)
 | succ r ih =>
  intro j i s vb ub c hr hj J hit hS hvb rvb hij hbest
  obtain ⟨its,rv,p,hz⟩:=J.seqB sq
  have hlen:=rv.length
  have hlt:j + 1 < xs.length:=by omega
  refine codeAny_builtin PySem.F.entry_min_loop ?_
  rw [Around.under_plainId PySem.F.plain_min_loop _]
  show wpAny _ X.A.in1 (seqItems? (.ref S) >>= _) _ _ _
  refine wpAny_bind (wpAny_seqItems hS rfl ?_)
  show wpAny _ X.A.in1 (tryCatch (pyNext (.ref I)) _ >>= _) _ _ _
  refine wpAny_bind (wpAny_tryCatch ((qhp hh b I l hlI its.toArray).item (j + 1) _ _ _ (by rw [List.size_toArray]; omega) ⟨hit,p⟩ fun v h' tk' hP hst' hk'=>?_))
  have J1:Inv X pins σ H { s with heap:=h',toks:=tk' }:=J.turnedL (t':=tk') fpI fun b o hb e=>hk' b o hb e
  have hS':=hk' S _ (by simpa using hSI) hS
  have hxv:xs[j + 1]?=some xs[j + 1]:=List.getElem?_eq_getElem hlt
  obtain ⟨v',ev,rvv⟩:=rv.get hxv
  have ev':v'=v:=by
   have hP:its[j + 1]?=some v:=by simpa using hP
   rw [ev] at hP
   exact Option.some.inj hP
  subst ev'
  show wpAny _ X.A.in1 (tryCatch (holding [v',v'] (richCompare .Lt v' ub >>= _)) _ >>= _) _ _ _
  refine wpAny_bind (wpAny_tryCatch (wpAny_holding (wpAny_bind (lt _ (j + 1) i _ _ v' ub J1 hxv hvb rvv rvb X.prog X.w _ _ ?_))))
  refine wpAny_bind (wpAny_holding (wpAny_truthy_bool ?_))
  refine wpAny_bind (wpAny_letGo (wpAny_pure ?_))
  cases hb':bt (j + 1) i with
  | true =>
   have s1:=Heap.SameBut.update h' S (Obj.mapSeq fun _=>#[v',v'])
   obtain ⟨c2,hc2⟩:∃ c2,(h'.update S (Obj.mapSeq fun _=>#[v',v'])).get? S=some (seqObj "list" #[v',v'] c2):=⟨_,get?_update_seq hS' fun _=>#[v',v']⟩
   simp only [if_true]
   refine wpAny_bind ?_
   refine wpAny_updateSeq hS' rfl (wpAny_bind (wpAny_letGo ?_))
   rw [hname]
   refine wpAny_pure ⟨plainId_quiet PySem.F.plain_min_loop _,ih (j + 1) (j + 1) _ xs[j + 1] v' c2 (by omega) hlt (J1.turnedL (t':=tk') fpS fun b o hb e=>(s1.2 b (by simpa using hb)).trans e) (hst'.1.at fun o e=>(s1.2 I hSI.symm).trans e) hc2 hxv rvv (Nat.le_refl _) fun j' hj'=>?_⟩
   have h1:=hlo _ _ hb'
   by_cases e:j'=j + 1
   ·subst e; exact Int.le_refl _
   ·have:=hbest j' (by omega); omega
  | false =>
   simp only [Bool.false_eq_true,if_false]
   refine wpAny_bind (wpAny_letGo ?_)
   rw [hname]
   refine wpAny_pure ⟨plainId_quiet PySem.F.plain_min_loop _,ih (j + 1) i _ vb ub c (by omega) hlt J1 hst'.1 hS' hvb rvb (by omega) fun j' hj'=>?_⟩
   have h1:=hhi _ _ hb'
   by_cases e:j'=j + 1
   ·subst e; exact h1
   ·exact hbest j' (by omega)
theorem qis {s:Shared}{Q:Value->Shared->Prop}{E:Value->Shared->Prop}(hc:X.calm=true)(J:Inv X pins σ H s)(sq:SqB X.K H b l xs)(hne:xs≠[])
  (lt:∀ (s':Shared) (i j:Nat) (v z:V) (u y:Value),Inv X pins σ H s'->xs[i]?=some v->xs[j]?=some z->RelV v u->RelV z y->SeqAt.RcLtAt X.A.in1 s' u y (bt i j))
  (hlo:∀ i j,bt i j=true->kf i≤kf j) (hhi:∀ i j,bt i j=false->kf j≤kf i)
  (hQ:∀ (i:Nat) (v:V) (u:Value) (s':Shared),xs[i]?=some v->RelV v u->(∀ j,j < xs.length->kf i≤kf j)->Inv X pins σ H s'->Q u s') :
  wpAny (model X.prog X.w) X.A (call (.builtin "min") [.ref l]) Q E s:=by
 have hname:(toString "min" ++ toString ".loop" : String) = "min.loop" := by decide
 have hh:X.A.in1.handled=none:=J.ok.hd hc
 have hpos:0 < xs.length:=List.length_pos_iff.mpr hne
 obtain ⟨its,rv,p,hz⟩:=J.seqB sq
 have hlen:=rv.length
 have hll:=p.lt
 refine call_function_tree PySem.F.kind_min PySem.F.plain_min PySem.F.entry_min (PySem.F.args_min1 _) ?_
 show wpAny _ X.A.in1 (Builtin.Builtins.bindParams "min" ["key", "default"] 0 ⟨[],[]⟩ >>= _) _ _ s
 refine wpAny_bind (wpAny_of_eq (show Builtin.Builtins.bindParams "min" ["key", "default"] 0 ⟨[],[]⟩=pure [none,none] from rfl) ?_)
 refine wpAny_bind (wpAny_pure ?_)
 refine wpAny_bind (iterB p fun h0 it0 sz0 k0=>?_)
 refine wpAny_bind (wpAny_newList ?_ (Nat.zero_le _))
 rw [hname]
 have J0:Inv X pins σ H { s with heap:=h0,toks:=s.toks }:=J.kept (t':=s.toks) k0
 have JS:Inv X pins σ H { s with heap:=h0.push (seqObj "list" #[] 0),toks:=s.toks }:=J.kept (t':=s.toks) fun b u e=>Heap.get?_push_of_some _ (k0 b u e)
 have gS:(h0.push (seqObj "list" #[] 0)).get? h0.objs.size=some (seqObj "list" #[] 0):=Heap.get?_push_size _ rfl
 have hSI:h0.objs.size≠s.heap.objs.size:=by rw [sz0]; exact Nat.ne_of_gt (Nat.lt_succ_self _)
 have hlI:l≠s.heap.objs.size:=Nat.ne_of_lt hll
 have fI:FpOk X pins H s.heap.objs.size:=J.fpOk (Nat.le_refl _) (J.hok.fresh (Nat.le_refl _))
 have fS:FpOk X pins H h0.objs.size:=J.fpOk (by rw [sz0]; exact Nat.le_succ _) (J.hok.fresh (by rw [sz0]; exact Nat.le_succ _))
 have fpI:∀ b∈[s.heap.objs.size],FpOk X pins H b:=fun b hb=>by rw [List.mem_singleton.mp hb]; exact fI
 have fpS:∀ b∈[h0.objs.size],FpOk X pins H b:=fun b hb=>by rw [List.mem_singleton.mp hb]; exact fS
 have fpB:∀ b∈[s.heap.objs.size,h0.objs.size],FpOk X pins H b:=fun b hb=>by
  rcases List.mem_cons.mp hb with rfl | hb
  ·exact fI
  ·exact fpS b hb
 refine wpAny_pure ⟨plainId_quiet PySem.F.plain_min_loop _,?_⟩
 generalize hI:s.heap.objs.size=I at *
 generalize hSS:h0.objs.size=S at *
 refine codeAny_builtin PySem.F.entry_min_loop ?_
 rw [Around.under_plainId PySem.F.plain_min_loop _]
 show wpAny _ X.A.in1 (seqItems? (.ref S) >>= _) _ _ _
 refine wpAny_bind (wpAny_seqItems gS rfl ?_)
 show wpAny _ X.A.in1 (tryCatch (pyNext (.ref I)) _ >>= _) _ _ _
 refine wpAny_bind (wpAny_tryCatch ((qhp hh b I l hlI its.toArray).item 0 _ _ _ (by rw [List.size_toArray]; omega) ⟨it0.at fun o e=>Heap.get?_push_of_some _ e,p.at fun o e=>Heap.get?_push_of_some _ (k0 _ _ e)⟩ fun v h' tk' hP hst' hk'=>?_))
 have J1:Inv X pins σ H { s with heap:=h',toks:=tk' }:=JS.turnedL (t':=tk') fpI fun b o hb e=>hk' b o hb e
 have hS':=hk' S _ (by simpa using hSI) gS
 have hxv:xs[0]?=some xs[0]:=List.getElem?_eq_getElem hpos
 obtain ⟨v',ev,rvv⟩:=rv.get hxv
 have ev':v'=v:=by
  have hP:its[0]?=some v:=by simpa using hP
  rw [ev] at hP
  exact Option.some.inj hP
 subst ev'
 have s1:=Heap.SameBut.update h' S (Obj.mapSeq fun _=>#[v',v'])
 obtain ⟨c2,hc2⟩:∃ c2,(h'.update S (Obj.mapSeq fun _=>#[v',v'])).get? S=some (seqObj "list" #[v',v'] c2):=⟨_,get?_update_seq hS' fun _=>#[v',v']⟩
 show wpAny _ X.A.in1 (updateSeq S (fun _=>#[v',v']) >>= _) _ _ _
 refine wpAny_bind ?_
 refine wpAny_updateSeq hS' rfl ?_
 rw [hname]
 refine wpAny_pure ⟨plainId_quiet PySem.F.plain_min_loop _,qir hh sq hlI hSI fI fS lt hlo hhi hQ _ 0 0 _ xs[0] v' c2 rfl hpos (J1.turnedL (t':=tk') fpS fun b o hb e=>(s1.2 b (by simpa using hb)).trans e) (hst'.1.at fun o e=>(s1.2 I hSI.symm).trans e) hc2 hxv rvv (Nat.le_refl _) fun j' hj'=>?_⟩
 have:j'=0:=by omega
 subst this
 exact Int.le_refl _
end
end L2
namespace L2
open PySem PySem.Spec PyProof.Rows Srt
theorem seqI:∀ ns ms:List Int,qkq (iv ns) (iv ms)=decide (ns=ms):=by
 intro ns ms
 unfold qkq
 by_cases e:ns=ms
 ·subst e
  rw [decide_eq_true rfl]
  simp only [beq_self_eq_true,Bool.and_true,List.all_eq_true,List.mem_range]
  intro i hi
  have hi':i < ns.length:=by simpa using hi
  simp [hi',eqV]
 ·rw [decide_eq_false e]
  by_cases l:ns.length=ms.length
  ·refine Bool.and_eq_false_iff.mpr (.inl ?_)
   rw [List.all_eq_false]
   have:∃ i,i < ns.length/\ns[i]?≠ms[i]?:=by
    refine Classical.byContradiction fun z=>e (List.ext_getElem? fun i=>?_)
    by_cases hi:i < ns.length
    ·exact Classical.byContradiction fun q=>z ⟨i,hi,q⟩
    ·rw [List.getElem?_eq_none (by omega),List.getElem?_eq_none (by omega)]
   obtain ⟨i,hi,q⟩:=this
   have hm:i < ms.length:=by omega
   refine ⟨i,by simp; omega,?_⟩
   have q':ns[i]≠ms[i]:=by simpa [hi,hm] using q
   simp [hi,hm,eqV,q']
  ·refine Bool.and_eq_false_iff.mpr (.inr ?_)
   simpa using l
section
variable {X:Cx}
theorem ql6 {pins:List (Addr × Obj)}{σ:St}{H:Hp}{s:Shared}{A:Around}(I:Inv X pins σ H s)(hu:A.units < cLine){a b:Addr}{ns ms:List Int}(ha:H a=some (.tup (iv ns)))(hb:H b=some (.tup (iv ms))):SeqAt.EqAt A s (.ref a) (.ref b) (decide (ns=ms)):=by
 by_cases e:a=b
 ·subst e
  rw [ha] at hb
  have h1:iv ns=iv ms:=by injection hb with h; injection h
  have:ns=ms:=by
   have:=seqI ns ms
   rw [<- h1] at this
   rw [show qkq (iv ns) (iv ns)=decide (ns=ns) from seqI ns ns,decide_eq_true rfl] at this
   exact of_decide_eq_true this.symm
  rw [decide_eq_true this]
  exact SeqAt.EqAt.same _
 obtain ⟨us,r1,t1,z1⟩:=I.tuple (SqT.of ha)
 obtain ⟨ws,r2,t2,z2⟩:=I.tuple (SqT.of hb)
 refine SeqAt.EqAt.of_refs e ?_
 have fl:∀ l:List Int,(iv l).all qkp=true:=fun l=>by simp [iv,qkp]
 have key:=SeqAt.RcAt.tuples (A:=A) (s:=s) (e:=fun j=>eqV ((iv ns).getD j .non) ((iv ms).getD j .non)) (show s.heap.IsTuple a us.toArray from t1) (show s.heap.IsTuple b ws.toArray from t2) hu (fun j x y =>
  qm0 (qkP r1 x) (qkP r2 y) (qk9 (fl ns) (by have:=r1.length; have:=x; simp at this ⊢; simp at *; omega)) (qk9 (fl ms) (by have:=r2.length; have:=y; simp at this ⊢; simp at *; omega)))
 have e2:=seqI ns ms
 unfold qkq at e2
 rw [<- e2]
 rw [List.size_toArray,List.size_toArray,<- r1.length,<- r2.length] at key
 exact key
theorem qgo {α β:Type}{R:α->β->Prop}:∀ {xs:List α} {ys:List β},Paired R xs ys->∀ {i:Nat} {x:α},xs[i]?=some x->∃ y,ys[i]?=some y/\R x y
 | _,_,.nil,i,x,h=>by simp at h
 | _,_,.cons a t,0,x,h=>⟨_,rfl,by cases h; exact a⟩
 | _,_,.cons a t,i + 1,x,h=>by simpa using qgo t (by simpa using h)
def TopT (H:Hp)(v:V)(q:Int × List Int):Prop:=∃ a b,v = .ref a/\H a=some (.tup [.int q.1,.ref b])/\H b=some (.tup (iv q.2))
def ltT (p q:Int × List Int):Bool:=if p.1=q.1 then (if p.2=q.2 then false else lexI p.2 q.2) else decide (p.1 < q.1)
theorem qlk {pins:List (Addr × Obj)}{σ:St}{H:Hp}{s:Shared}{A:Around}(I:Inv X pins σ H s)(hu:A.units + 1 < cLine){v z:V}{u y:Value}{p q:Int × List Int}(hv:TopT H v p)(hz:TopT H z q)(ru:RelV v u)(ry:RelV z y):SeqAt.RcLtAt A s u y (ltT p q):=by
 obtain ⟨a,b,rfl,ha,hb⟩:=hv
 obtain ⟨c,d,rfl,hc,hd⟩:=hz
 cases ru
 cases ry
 obtain ⟨us,r1,t1,z1⟩:=I.tuple (SqT.of ha)
 obtain ⟨ws,r2,t2,z2⟩:=I.tuple (SqT.of hc)
 cases r1 with
 | cons ra1 r1 =>
 cases r1 with
 | cons ra2 r1 =>
 cases r1
 cases r2 with
 | cons rc1 r2 =>
 cases r2 with
 | cons rc2 r2 =>
 cases r2
 obtain ⟨k1,rfl⟩:=ra1
 obtain ⟨k2,rfl⟩:=rc1
 cases ra2
 cases rc2
 have hu1:A.in1.units < cLine:=hu
 refine SeqAt.RcLtAt.tuples (e:=fun i=>if i=0 then decide (p.1=q.1) else decide (p.2=q.2)) (f:=fun i=>if i=0 then decide (p.1 < q.1) else lexI p.2 q.2) (res:=fun i=>if i=0 then ltT p q else if i=1 then (if p.2=q.2 then false else lexI p.2 q.2) else false) t1 t2 (by omega) ?_ ?_ ?_ ?_ ?_
 ·intro i hi e
  have hi':i < 2:=by simpa using hi
  rcases (show i=0\/i=1 by omega) with rfl | rfl
  ·have e':p.1=q.1:=by simpa using e
   simp [ltT,e']
  ·have e':p.2=q.2:=by simpa using e
   simp [e']
 ·intro i hi e
  have hi':i < 2:=by simpa using hi
  rcases (show i=0\/i=1 by omega) with rfl | rfl
  ·have e':p.1≠q.1:=by simpa using e
   simp [ltT,e']
  ·have e':p.2≠q.2:=by simpa using e
   simp [e']
 ·intro i hi
  have hi':2≤i:=by simpa using hi
  have h0:i≠0:=by omega
  have h1:i≠1:=by omega
  simp [h0,h1]
 ·intro j h1 h2
  have hj:j < 2:=by simpa using h1
  rcases (show j=0\/j=1 by omega) with rfl | rfl
  ·have:=SeqAt.EqAt.int_int (A:=A.in1) (s:=s) p.1 k1 q.1 k2
   rw [show (p.1 == q.1)=decide (p.1=q.1) from rfl] at this
   exact this
  ·have:=ql6 (A:=A.in1) I hu1 hb hd
   simpa using this
 ·intro j h1 h2 e
  have hj:j < 2:=by simpa using h1
  rcases (show j=0\/j=1 by omega) with rfl | rfl
  ·intro prog w E Q h
   have h':Q (.bool (decide (p.1 < q.1))) s:=by simpa using h
   exact lt_int h'
  ·have:=qhY (A:=A.in1) (I.tupI hb) (I.tupI hd) hu1
   simpa using this
theorem qi9 (hc:X.calm=true)(hu:X.A.units + 2 < cLine):qb5 X (.builtin "min") (fun xs H Q=>∃ (l:Addr) (zs:List V) (qs:List (Int × List Int)),xs=[.ref l]/\H l=some (.lst zs)/\Paired (TopT H) zs qs/\zs≠[]/\∀ v q,v∈zs->q∈qs->TopT H v q->(∀ r∈qs,q.1≤r.1)->Q v H):=by
 intro pins s σ H xs us Q I r h
 obtain ⟨l,zs,qs,rfl,hl,pd,hne,k⟩:=h
 obtain ⟨u,rfl,ru⟩:=vals1 r
 cases ru
 have pl:=Paired.length pd
 have get:∀ (i:Nat) (v:V),zs[i]?=some v->∃ q,qs[i]?=some q/\TopT H v q:=fun i v hv=>qgo pd hv
 refine qis (b:=true) (xs:=zs) (kf:=fun i=>(qs.getD i (0,[])).1) (bt:=fun i j=>ltT (qs.getD i (0,[])) (qs.getD j (0,[]))) hc I (SqB.l hl) hne ?_ ?_ ?_ ?_
 ·intro s' i j v z u y I' hv hz ru ry
  obtain ⟨p,hp,tp⟩:=get i v hv
  obtain ⟨q,hq,tq⟩:=get j z hz
  have:=qlk (A:=X.A.in1) I' (show X.A.in1.units + 1 < cLine from hu) tp tq ru ry
  simpa [hp,hq] using this
 ·intro i j e
  show (qs.getD i (0,[])).1≤(qs.getD j (0,[])).1
  have e':ltT (qs.getD i (0,[])) (qs.getD j (0,[]))=true:=e
  unfold ltT at e'
  split at e'
  ·omega
  ·have:=of_decide_eq_true e'; omega
 ·intro i j e
  show (qs.getD j (0,[])).1≤(qs.getD i (0,[])).1
  have e':ltT (qs.getD i (0,[])) (qs.getD j (0,[]))=false:=e
  unfold ltT at e'
  split at e'
  ·omega
  ·have:=of_decide_eq_false e'; omega
 ·intro i v u s' hv ru best I'
  obtain ⟨q,hq,tq⟩:=get i v hv
  refine ⟨v,H,I',ru,k v q (List.mem_of_getElem? hv) (List.mem_of_getElem? hq) tq fun r hr=>?_⟩
  obtain ⟨j,hj,rfl⟩:=List.getElem_of_mem hr
  have:=best j (by omega)
  simpa [hq,hj] using this
end
end L2
namespace L2
open PySem PySem.Spec PyProof.Rows
theorem qfT {X:Cx}{kx vx tg iter:Expr}{ifs:List Expr}{scope:Scope}{pos pos2:Pos}{wi:TI}{g:TG}{tc:TT}{tk tv:TE}{N:List Str}{σ0:St->St}{pins:List (Addr × Obj)}{s:Shared}{σ:St}{H:Hp}{Q:VK}{use:Option (Value->Sem Unit)}{QQ:Value->Shared->Prop}
  (hc:X.calm=true) (hxe:∀ e s,X.xe e s->False) (hap:∀ y∈scope.names,y.2 = .free->(y.1,NameKind.cell) ∉ scope.names) (hkind:scope.kind = .function) (hnames:∀ y∈scope.names,y.2 = .local->scope.names.lookup y.1=some .local)
  (hfr:∀ y∈scope.names,y.2 = .free->X.env.kindOf y.1=some .cell\/X.env.kindOf y.1=some .free) (hσ:Sees X scope N σ0)
  (hi:PI X tg iter wi)
  (hg:∀ cl C s H ex,PG (qa3 X scope N cl C s H ex) tg g) (ht:∀ cl C s H ex,PTs (qa3 X scope N cl C s H ex) ifs tc) (hk:∀ cl C s H ex,PE (qa3 X scope N cl C s H ex) kx tk) (hv:∀ cl C s H ex,PE (qa3 X scope N cl C s H ex) vx tv)
  (hs:∀ x,foldedSetIterable iter X.env x=pure x) (I:Inv X pins σ H s) (h:qkG σ0 wi g tc tk tv σ H Q)
  (hend:∀ (p C:Addr) (H':Hp) (s':Shared) (m:Str->Option Value) (f:Flow),Inv X pins σ H' s'->FpOk X pins H' C->s'.heap.Ns C m->(∀ h',Heap.SameBut C s'.heap h'->Inv X pins σ H' { s' with heap:=h' })->Q (.ref p) H' ->
    compPost (model X.prog X.w) X.A X.xe use QQ (.ref p) C (.ok f) s') :
  wpAny (model X.prog X.w) X.A (comprehension (.DictComp kx vx [⟨tg,iter,ifs,0⟩] scope pos) scope X.env pos2 newDict false (eval iter X.env) use) QQ X.xe s:=by
 obtain ⟨cl,hclos,hcl1,hcl2⟩:=qbu (env:=X.env) (scope:=scope) fun y hy hf=>I.ok.has y.1 (hfr y hy hf)
 refine wpAny_comprehension_free (use:=use) rfl hs hclos hkind hnames (thn (hi pins s σ H _ I h) fun v s1 h1=>thn h1 fun itv s2 h2=>?_)
 obtain ⟨it,fp,tn,J,H2,e,I2,T,st2,f2,h3⟩:=h2
 subst e
 have hpn:H2 s2.heap.objs.size=none:=I2.hok.fresh (Nat.le_refl _)
 have h4:=h3 _ hpn
 refine qbZ ?_
 generalize hp:s2.heap.objs.size=p at *
 have I3:Inv X pins σ (upd H2 p (.dK [])) { s2 with heap:=s2.heap.push { cls := .type "dict",data := .dict #[] } }:=by
  have q:=qgI (P:=X.prog) (w:=X.w) (H:=upd H2 s2.heap.objs.size (.dK [])) s2.heap I2.big
  rw [hp] at q
  exact I2.laid (a:=p) (o := .dK []) (t':=s2.toks) (fun b u q=>Heap.get?_push_of_some _ q) (Nat.le_of_eq hp) q
 have hf3:∀ b∈fp,FpOk X pins (upd H2 p (.dK [])) b:=fun b hb=>by
  obtain ⟨o,ho,_⟩:=T.obj _ _ st2 b hb
  have:b≠p:=by rw [<- hp]; exact Nat.ne_of_lt (Heap.lt_size ho)
  exact ⟨by rw [uE this]; exact (f2 b hb).1,(f2 b hb).2⟩
 generalize hs3:({ s2 with heap:=s2.heap.push { cls := .type "dict",data := .dict #[] } }:Shared)=s3 at *
 have st3:tn 0 s3.heap:=by rw [<- hs3]; exact T.keep _ _ _ st2 fun b _ o e=>Heap.get?_push_of_some _ e
 generalize hH3:upd H2 p (.dK [])=H3 at *
 refine qip ?_
 generalize hC:s3.heap.objs.size=C at *
 obtain ⟨own,ho⟩:∃ own,cellsFrom (C + 1) scope.names []=own:=⟨_,rfl⟩
 obtain ⟨h1,hh1⟩:∃ h1,pushCells (s3.heap.push { cls := .type "dict",data := .dict #[] }) scope.names=h1:=⟨_,rfl⟩
 have okc:CellsOk h1 (C + 1) own:=by
  have:=cellsFrom_ok scope.names (s3.heap.push { cls := .type "dict",data := .dict #[] }) (C + 1) [] ⟨fun _ _ hm=>(nomatch hm),List.Pairwise.nil⟩ (by rw [Heap.size_push,hC]; exact Nat.le_refl _)
  rw [Heap.size_push,hC,ho,hh1] at this
  exact this
 rw [qi7,ho,hh1]
 have hin:∀ {x c},(x,c)∈own->(x,NameKind.cell)∈scope.names:=fun {x c} h=>by rw [<- ho] at h; exact qlB h
 have hhas:∀ {x},(x,NameKind.cell)∈scope.names->∃ c,own.lookup x=some c:=fun {x} h=>by rw [<- ho]; exact qlC h
 have hns1:h1.Ns C (fun _=>none):=by
  rw [<- hh1,<- hC]
  exact (Heap.Ns.new s3.heap (.type "dict")).keeps (pushCells_keeps _ _)
 have keep:∀ b u,s3.heap.get? b=some u->h1.get? b=some u:=fun b u q=>by rw [<- hh1]; exact pushCells_keeps _ _ b u (Heap.get?_push_of_some _ q)
 have cases2:∀ {x c},(own ++ cl).lookup x=some c->(h1.IsCell c none/\C + 1≤c/\own.lookup x=some c)\/(own.lookup x=none/\cl.lookup x=some c):=fun {x c} h=>by
  rw [List.lookup_append] at h
  cases e:own.lookup x with
  | some d =>
   rw [e] at h
   have:d=c:=Option.some.inj h
   subst this
   have:=okc.empty x d (mem_of_lookup e)
   exact .inl ⟨this.1,this.2,rfl⟩
  | none =>
   rw [e] at h
   exact .inr ⟨rfl,h⟩
 have clt:∀ {x c},cl.lookup x=some c->c < C:=fun {x c} h=>by
  obtain ⟨v,q⟩:=I3.cell x c (hcl1 x c h)
  rw [<- hC]
  exact q.lt
 have fpC:∀ b∈fp,b≠C:=fun b hb=>by
  obtain ⟨o,ho,_⟩:=T.obj _ _ st3 b hb
  rw [<- hC]; exact Nat.ne_of_lt (Heap.lt_size ho)
 have fpCl:∀ b∈fp,∀ x c,(own ++ cl).lookup x=some c->c≠b:=fun b hb x c q=>by
  obtain ⟨o,hob,_⟩:=T.obj _ _ st3 b hb
  have lb:b < C:=by rw [<- hC]; exact Heap.lt_size hob
  rcases cases2 q with ⟨_,l,_⟩ | ⟨_,z⟩
  ·intro z
   subst z
   exact absurd lb (Nat.not_lt.mpr (Nat.le_trans (Nat.le_succ _) l))
  ·exact (hf3 b hb).2.2.2.2.1 x c (hcl1 x c z)
 have hCn:H3 C=none:=I3.hok.fresh (Nat.le_of_eq hC)
 have ok':(qa3 X scope N (own ++ cl) C s3 H3 fp).Ok:=by
  refine ⟨I3.mod,hkind,I3.ok.glob,I3.ok.blt,Nat.le_of_eq hC,fun x y c a b=>?inj,fun x hx=>?_,fun x c z q=>?cab,I3.ok.hd,I3.ok.frames,.inl rfl,fun b hb=>⟨fpC b hb,fun x c q=>fpCl b hb x c q⟩,
   I3.bs,Nat.le_trans I3.ok.bsz I3.sz,fun b o e hb=>?_,fun b hb z=>?_,I3.stack,I3.stkFree⟩
  case inj =>
   rcases cases2 a with ⟨_,l1,e1⟩ | ⟨_,z1⟩ <;> rcases cases2 b with ⟨_,l2,e2⟩ | ⟨_,z2⟩
   ·exact name_of_addr okc.apart (mem_of_lookup e1) (mem_of_lookup e2)
   ·exact absurd (clt z2) (Nat.not_lt.mpr (Nat.le_trans (Nat.le_succ _) l1))
   ·exact absurd (clt z1) (Nat.not_lt.mpr (Nat.le_trans (Nat.le_succ _) l2))
   ·exact I3.ok.inj x y c (hcl1 x c z1) (hcl1 y c z2)
  case cab =>
   have hl:scope.names.lookup x=some .cell:=by
    have z':(scope.names.lookup x == some NameKind.cell)=true:=z
    exact eq_of_beq z'
   obtain ⟨d,hd⟩:=hhas (mem_of_lookup hl)
   have q':(own ++ cl).lookup x=some c:=q
   rcases cases2 q' with ⟨_,l,_⟩ | ⟨n,_⟩
   ·show s3.heap.objs.size≤c
    rw [hC]; exact Nat.le_trans (Nat.le_succ _) l
   ·rw [hd] at n; cases n
  ·have hx':(relabel scope X.env).names.lookup x=some .cell\/(relabel scope X.env).names.lookup x=some .free:=hx
   have fin:∀ {d},cl.lookup x=some d->∃ c,(own ++ cl).lookup x=some c:=fun {d} h=>by
    rw [List.lookup_append]
    cases own.lookup x with
    | some e=>exact ⟨e,rfl⟩
    | none=>exact ⟨d,h⟩
   rcases hx' with z | z
   ·rcases qaj z with y | ⟨_,y⟩
    ·obtain ⟨c,hc'⟩:=hhas y
     exact ⟨c,by show (own ++ cl).lookup x=some c; rw [List.lookup_append,hc']; rfl⟩
    ·obtain ⟨c,hc'⟩:=hcl2 x y; exact fin hc'
   ·rcases qaj z with y | ⟨y,_⟩
    ·obtain ⟨c,hc'⟩:=hcl2 x y; exact fin hc'
    ·cases y
  ·rcases (hf3 b hb).2.2.2.1 with z | z
   ·exact I3.ok.noex b o e z
   ·exact absurd (Nat.lt_of_lt_of_le (Heap.lt_size e) (Nat.le_trans I3.ok.bsz z)) (Nat.lt_irrefl _)
  ·rcases List.mem_cons.mp (I3.stkSub b z) with q | q
   ·exact (hf3 b hb).2.1 q
   ·exact (hf3 b hb).2.2.1 q
 have J0:Inv (qa3 X scope N (own ++ cl) C s3 H3 fp) [] (σ0 σ) H3 { s3 with heap:=h1 }:=by
  refine ⟨ok',rfl,I3.bare,Un.kept keep,⟨_,hns1,fun i x v a b c=>?_⟩,fun x c q=>?_,hCn,fun x c q=>?fc,fun q hq=>absurd (show q∈([]:List (Addr × Obj)) from hq) (by simp),I3.hok.kept keep,(hσ σ).1⟩
  ·obtain ⟨hf,j,hj,hv⟩:=(hσ σ).2 i x v a b
   have hm:=qaQ hf
   obtain ⟨m,hn,hl⟩:=id I3.loc
   have hk:=hfr _ hm rfl
   have hvis:Vis X.env.scope x:=hk.elim (fun z => .inr (.inl z)) fun z => .inr (.inr z)
   obtain ⟨u,r,lk⟩:=hl j x v hj hv hvis
   refine ⟨u,r,.inr ⟨qar hf,?_⟩⟩
   obtain ⟨c',hc'⟩:=hcl2 x hm
   refine ⟨c',?_,?_⟩
   ·show (own ++ cl).lookup x=some c'
    rw [List.lookup_append]
    cases e:own.lookup x with
    | none=>exact hc'
    | some d=>exact absurd (hin (mem_of_lookup e)) (hap _ hm rfl)
   have hx:=hcl1 x c' hc'
   rcases lk with ⟨kl,_⟩ | ⟨_,c2,e2,o2,ho2,hd2⟩
   ·rcases hk with z | z <;> rw [kl] at z <;> cases z
   ·rw [hx] at e2
    cases e2
    exact ⟨o2,keep _ _ ho2,hd2⟩
  ·rcases cases2 q with ⟨z,_⟩ | ⟨_,z⟩
   ·exact ⟨none,z⟩
   ·obtain ⟨v,o,ho,hd⟩:=I3.cell x c (hcl1 x c z)
    exact ⟨v,o,keep _ _ ho,hd⟩
  case fc =>
   rcases cases2 q with ⟨_,l,_⟩ | ⟨_,z⟩
   ·exact I3.hok.fresh (by rw [hC]; exact Nat.le_trans (Nat.le_succ _) l)
   ·exact I3.freeC x c (hcl1 x c z)
 have st4:tn 0 h1:=T.keep _ _ _ st3 fun b _ o e=>keep b o e
 have stat:∀ {H':Hp},(∀ b∈fp,H' b=none)->∀ b∈fp,FpOk (qa3 X scope N (own ++ cl) C s3 H3 fp) [] H' b:=fun hn b hb =>
  ⟨hn b hb,fpC b hb,fun z=>ok'.exfs b hb z,.inl hb,fun x c q=>fpCl b hb x c q,fun q hq=>absurd (show q∈([]:List (Addr × Obj)) from hq) (by simp)⟩
 have back:∀ {σ':St} {H':Hp} {s':Shared} {pl:List (Addr × Obj)},Inv (qa3 X scope N (own ++ cl) C s3 H3 fp) pl σ' H' s'->∀ h',Heap.SameBut C s'.heap h'->Inv X pins σ H' { s' with heap:=h' }:=fun {σ' H' s' pl} J h' hsb=>by
  have I5:Inv X pins σ H' s':=Inv.call' (ch:=fp) I3 J.os J.base J.hok J.bare fun b hb=>⟨(hf3 b hb).2.2.2.1,(hf3 b hb).2.1,(hf3 b hb).2.2.2.2.1,(hf3 b hb).2.2.2.2.2⟩
  refine Inv.turned (it:=C) (t':=s'.toks) I5 (fun b o hb e=>hsb.extBut b o hb e) J.free (fun z=>?_) (.inr ?_) (fun x c q z=>?_) fun q hq z=>?_
  ·exact absurd (show X.env.locals < C by rw [<- hC]; exact I3.lt) (by rw [z]; exact Nat.lt_irrefl _)
  ·rw [<- hC]; exact I3.sz
  ·obtain ⟨v,o,ho,_⟩:=I3.cell x c q
   have:=Heap.lt_size ho
   rw [z,hC] at this
   exact Nat.lt_irrefl _ this
  ·have:=Heap.lt_size (I3.pin q hq).1
   rw [z,hC] at this
   exact Nat.lt_irrefl _ this
 have ff:∀ b∈fp,FpOk (qa3 X scope N (own ++ cl) C s3 H3 fp) [] H3 b:=stat fun b hb=>(hf3 b hb).1
 have loop:codeAny (model X.prog X.w) X.A (.compLoop (.DictComp kx vx [⟨tg,iter,ifs,0⟩] scope pos) 0 (.ref it) (.ref p) (compEnvC scope (own ++ cl) C X.env)) (compPost (model X.prog X.w) X.A X.xe use QQ (.ref p) C) { s3 with heap:=h1 }:=by
  refine qgr (X:=qa3 X scope N (own ++ cl) C s3 H3 fp) (Q:=fun _ H'=>Q (.ref p) H') (qkB _ _ _ _ _ _ _ _ _ _) hc hxe T (hg (own ++ cl) C s3 H3 fp) (ht (own ++ cl) C s3 H3 fp) (qjT (hk (own ++ cl) C s3 H3 fp) (hv (own ++ cl) C s3 H3 fp)) J0 st4 ff h4 ?_
  intro s4 σ' H' I4 q
  obtain ⟨m,hn,_⟩:=id I4.loc
  have I5:Inv X pins σ H' s4:=Inv.call' (ch:=fp) I3 I4.os I4.base I4.hok I4.bare fun b hb=>⟨(hf3 b hb).2.2.2.1,(hf3 b hb).2.1,(hf3 b hb).2.2.2.2.1,(hf3 b hb).2.2.2.2.2⟩
  exact hend p C H' s4 m _ I5 (I3.fpOk (Nat.le_of_eq hC) I4.free) hn (fun h' hsb=>back I4 h' hsb) q
 exact codeAny_compStart_dict loop (T.self X.A 0 _ _ _ st4 loop)
theorem qh7 {X:Cx}{kx vx tg iter:Expr}{ifs:List Expr}{scope:Scope}{pos:Pos}{wi:TI}{g:TG}{tc:TT}{tk tv:TE}{N:List Str}{σ0:St->St}
  (hc:X.calm=true) (hxe:∀ e s,X.xe e s->False) (hap:∀ y∈scope.names,y.2 = .free->(y.1,NameKind.cell) ∉ scope.names) (hkind:scope.kind = .function) (hnames:∀ y∈scope.names,y.2 = .local->scope.names.lookup y.1=some .local)
  (hfr:∀ y∈scope.names,y.2 = .free->X.env.kindOf y.1=some .cell\/X.env.kindOf y.1=some .free) (hσ:Sees X scope N σ0)
  (hi:PI X tg iter wi)
  (hg:∀ cl C s H ex,PG (qa3 X scope N cl C s H ex) tg g) (ht:∀ cl C s H ex,PTs (qa3 X scope N cl C s H ex) ifs tc) (hk:∀ cl C s H ex,PE (qa3 X scope N cl C s H ex) kx tk) (hv:∀ cl C s H ex,PE (qa3 X scope N cl C s H ex) vx tv)
  (hs:∀ x,foldedSetIterable iter X.env x=pure x:=by intro _; rfl):PE X (.DictComp kx vx [⟨tg,iter,ifs,0⟩] scope pos) (qkG σ0 wi g tc tk tv):=by
 intro pins s σ H Q I h
 show wpAny _ X.A (comprehension (.DictComp kx vx [⟨tg,iter,ifs,0⟩] scope pos) scope X.env _ newDict false (eval iter X.env) none) _ _ s
 refine qfT (use:=none) (QQ:=EP X pins σ Q) hc hxe hap hkind hnames hfr hσ hi hg ht hk hv hs I h ?_
 intro p C H' s' m f I5 fC hn back q
 exact ⟨m,hn,fun h' hsb=>⟨.ref p,H',back h' hsb,rfl,q⟩⟩
end L2
namespace L2
open PySem
def kN (p:Int × V):Key × V:=(.inl p.1,p.2)
theorem qd0 {d:Addr}{o:Obj}{kws:List (Int × V)}:qbQ (Iti d o) kws.length (fun i H x H'=>∃ p kw,x = .ref p/\H p=none/\H'=upd H p (.tup [.int kw.1,kw.2])/\kws[i]?=some kw) (fun H=>H d=some (.frz o (.dK (kws.map kN)))) :=
 ⟨fun i H hi h=>⟨_,kN kws[i],h,by simp [hi]⟩,fun i H x H' hi h ⟨p,kv,e1,e2,e4,e5⟩=>by
  have:=e5 _ h
  rw [List.getElem?_map,Option.map_eq_some_iff] at this
  obtain ⟨kw,h1,h2⟩:=this
  subst h2
  exact ⟨p,kw,e1,e2,e4,h1⟩,fun H h=>⟨_,h,by simp⟩⟩
end L2
namespace L2
open PySem PySem.Spec PyProof.Rows
end L2
namespace DI
open PySem PySem.W PySem.Spec PyProof.Rows
end DI
namespace L2
open PySem PySem.W PySem.Spec PyProof.Rows DI Srt
end L2
namespace My
open PySem L2 MA
def top (i:Nat):Stmt:=PySem.Challenge.pw_emptierbox_k42_whole_layers_bound_the_fu.main.body.getD i (.Pass ⟨0,0,0,0⟩)
abbrev s_measure:Stmt:=top 5
theorem qdG:qak ["a", "b"] ["a", "b"] (qad s_measure):=⟨rfl,rfl,rfl,by decide +kernel,rfl,by decide +kernel,by decide +kernel⟩
abbrev s_parted:Stmt:=top 6
theorem qeD:qak ["top", "bottoms", "bottom", "number", "common"] ["top", "bottoms"] (qad s_parted):=⟨rfl,rfl,rfl,by decide +kernel,rfl,by decide +kernel,by decide +kernel⟩
abbrev s_weighed:Stmt:=top 7
theorem qbT:qak ["some", "bottom", "one"] ["some"] (qad s_weighed):=⟨rfl,rfl,rfl,by decide +kernel,rfl,by decide +kernel,by decide +kernel⟩
abbrev s_tail_tops:Stmt:=top 9
theorem qcB:qak ["tries", "top", "bottom", "coming", "at"] ["tries", "top", "bottom"] (qad s_tail_tops):=⟨rfl,rfl,rfl,by decide +kernel,rfl,by decide +kernel,by decide +kernel⟩
abbrev s_tails_of:Stmt:=top 11
theorem qc5:qak ["rule", "balls", "chances", "bottom"] ["rule", "balls"] (qad s_tails_of):=⟨rfl,rfl,rfl,by decide +kernel,rfl,by decide +kernel,by decide +kernel⟩
abbrev s_part_top:Stmt:=top 12
theorem qc6:qak ["tails", "k", "ahead", "b", "n", "balls"] ["tails", "k", "ahead", "b"] (qad s_part_top):=⟨rfl,rfl,rfl,by decide +kernel,rfl,by decide +kernel,by decide +kernel⟩
abbrev s_bound:Stmt:=top 13
theorem qga:qak ["rule", "balls", "layers", "tops", "tails", "bottom"] ["rule", "balls", "layers"] (qad s_bound):=⟨rfl,rfl,rfl,by decide +kernel,rfl,by decide +kernel,by decide +kernel⟩
abbrev s_least_layers:Stmt:=top 14
theorem qbJ:qak ["rule", "balls", "m", "n", "least", "k", "tails", "bottom", "top", "layers"] ["rule", "balls", "m"] (qad s_least_layers):=⟨rfl,rfl,rfl,by decide +kernel,rfl,by decide +kernel,by decide +kernel⟩
abbrev s_mean_of:Stmt:=top 16
theorem qdH:qak ["spread", "numbers", "tops", "bottom"] ["spread", "numbers"] (qad s_mean_of):=⟨rfl,rfl,rfl,by decide +kernel,rfl,by decide +kernel,by decide +kernel⟩
abbrev s_fullest_share:Stmt:=top 17
theorem qbG:qak ["spread", "m"] ["spread", "m"] (qad s_fullest_share):=⟨rfl,rfl,rfl,by decide +kernel,rfl,by decide +kernel,by decide +kernel⟩
abbrev s_many_share:Stmt:=top 18
theorem qcd:qak ["spread", "m", "b"] ["spread", "m", "b"] (qad s_many_share):=⟨rfl,rfl,rfl,by decide +kernel,rfl,by decide +kernel,by decide +kernel⟩
abbrev s_boxes_with:Stmt:=top 19
theorem qce:qak ["load", "m"] ["load", "m"] (qad s_boxes_with):=⟨rfl,rfl,rfl,by decide +kernel,rfl,by decide +kernel,by decide +kernel⟩
abbrev s_falling:Stmt:=top 21
theorem qdK:qak ["numbers"] ["numbers"] (qad s_falling):=⟨rfl,rfl,rfl,by decide +kernel,rfl,by decide +kernel,by decide +kernel⟩
abbrev s_put_at:Stmt:=top 22
theorem qeC:qak ["load", "rank", "numbers"] ["load", "rank"] (qad s_put_at):=⟨rfl,rfl,rfl,by decide +kernel,rfl,by decide +kernel,by decide +kernel⟩
abbrev s_alone:Stmt:=top 25
theorem qgb:qak ["load"] ["load"] (qad s_alone):=⟨rfl,rfl,rfl,by decide +kernel,rfl,by decide +kernel,by decide +kernel⟩
abbrev s_gathered:Stmt:=top 26
theorem qda:qak ["rows", "found", "thing", "weight"] ["rows"] (qad s_gathered):=⟨rfl,rfl,rfl,by decide +kernel,rfl,by decide +kernel,by decide +kernel⟩
abbrev s_weights_of:Stmt:=top 27
theorem qcc:qak ["spread", "tops", "bottom"] ["spread"] (qad s_weights_of):=⟨rfl,rfl,rfl,by decide +kernel,rfl,by decide +kernel,by decide +kernel⟩
abbrev s_spread_of:Stmt:=top 28
theorem qcC:qak ["weights", "bottoms"] ["weights", "bottoms"] (qad s_spread_of):=⟨rfl,rfl,rfl,by decide +kernel,rfl,by decide +kernel,by decide +kernel⟩
abbrev s_come:Stmt:=top 29
theorem qhU:qak ["chances", "weights"] ["chances", "weights"] (qad s_come):=⟨rfl,rfl,rfl,by decide +kernel,rfl,by decide +kernel,by decide +kernel⟩
abbrev s_ask_boxes:Stmt:=top 30
theorem qcE:qak ["ranks", "load"] ["ranks", "load"] (qad s_ask_boxes):=⟨rfl,rfl,rfl,by decide +kernel,rfl,by decide +kernel,by decide +kernel⟩
abbrev s_after:Stmt:=top 31
theorem qgc:qak ["rule", "spread", "many", "ball", "chances", "ball_bottom", "weights", "bottom"] ["rule", "spread", "many"] (qad s_after):=⟨rfl,rfl,rfl,by decide +kernel,rfl,by decide +kernel,by decide +kernel⟩
abbrev s_l_pen:Stmt:=top 33
theorem qf9:qak ["_law_script"] ["_law_script"] (qad s_l_pen):=⟨rfl,rfl,rfl,by decide +kernel,rfl,by decide +kernel,by decide +kernel⟩
abbrev s_l_draw:Stmt:=top 34
theorem qeG:qak ["_law_pen_here", "_law_many", "_law_at", "_law_cell", "_law_mixed_in", "_law_digit"] ["_law_pen_here", "_law_many"] (qad s_l_draw):=⟨rfl,rfl,rfl,by decide +kernel,rfl,by decide +kernel,by decide +kernel⟩
abbrev s_l_measure:Stmt:=top 35
theorem qcD:qak ["_law_a", "_law_b"] ["_law_a", "_law_b"] (qad s_l_measure):=⟨rfl,rfl,rfl,by decide +kernel,rfl,by decide +kernel,by decide +kernel⟩
abbrev s_l_lowest:Stmt:=top 36
theorem qc7:qak ["_law_top", "_law_bottom", "_law_much"] ["_law_top", "_law_bottom"] (qad s_l_lowest):=⟨rfl,rfl,rfl,by decide +kernel,rfl,by decide +kernel,by decide +kernel⟩
abbrev s_l_rule:Stmt:=top 37
theorem qeE:qak ["_law_pen_here", "_law_n", "_law_way", "_law_weights", "_law_at", "_law_many", "_law_tops", "_law_bottom", "_law_cuts"] ["_law_pen_here", "_law_n"] (qad s_l_rule):=⟨rfl,rfl,rfl,by decide +kernel,rfl,by decide +kernel,by decide +kernel⟩
abbrev s_l_power:Stmt:=top 38
theorem qdJ:qak ["_law_number", "_law_many", "_law_found", "_law_k"] ["_law_number", "_law_many"] (qad s_l_power):=⟨rfl,rfl,rfl,by decide +kernel,rfl,by decide +kernel,by decide +kernel⟩
abbrev s_l_layers:Stmt:=top 39
theorem qc8:qak ["_law_pen_here", "_law_n", "_law_found", "_law_k", "_law_way", "_law_low"] ["_law_pen_here", "_law_n"] (qad s_l_layers):=⟨rfl,rfl,rfl,by decide +kernel,rfl,by decide +kernel,by decide +kernel⟩
abbrev s_l_is_no_more:Stmt:=top 40
theorem qbK:qak ["_law_one", "_law_other"] ["_law_one", "_law_other"] (qad s_l_is_no_more):=⟨rfl,rfl,rfl,by decide +kernel,rfl,by decide +kernel,by decide +kernel⟩
abbrev s_l_broken:Stmt:=top 41
theorem qc9:qak ["_law_load", "_law_some", "_law_k"] ["_law_load", "_law_some"] (qad s_l_broken):=⟨rfl,rfl,rfl,by decide +kernel,rfl,by decide +kernel,by decide +kernel⟩
abbrev s_l_sum:Stmt:=top 42
theorem qf8:qak ["_law_parts_here", "_law_found", "_law_top", "_law_bottom"] ["_law_parts_here"] (qad s_l_sum):=⟨rfl,rfl,rfl,by decide +kernel,rfl,by decide +kernel,by decide +kernel⟩
abbrev s_l_rows:Stmt:=top 43
theorem qeF:qak ["_law_rule_here", "_law_balls", "_law_m", "_law_loads", "_law_k", "_law_longer", "_law_load", "_law_weight", "_law_rank", "_law_part", "_law_more"] ["_law_rule_here", "_law_balls", "_law_m"] (qad s_l_rows):=⟨rfl,rfl,rfl,by decide +kernel,rfl,by decide +kernel,by decide +kernel⟩
abbrev s_l_right:Stmt:=top 44
theorem qdI:qak ["_law_rule_here", "_law_balls", "_law_some", "_law_spread", "_law_here", "_law_m", "_law_least"] ["_law_rule_here", "_law_balls", "_law_some"] (qad s_l_right):=⟨rfl,rfl,rfl,by decide +kernel,rfl,by decide +kernel,by decide +kernel⟩
abbrev qeb:Stmt:=top 45
theorem qkO:qak ["_law_script", "_law_pen_here", "_law_lap", "_law_rule_here", "_law_balls", "_law_m", "_law_due", "_law_told"] ["_law_script"] (qad qeb):=⟨rfl,rfl,rfl,by decide +kernel,rfl,by decide +kernel,by decide +kernel⟩
section
variable {P:Program}{w:World}{K:PySem.W.Frag}{mg:Str->Option Value}{base:Heap}
theorem qg7 (T:Txt mg)(F:FunAt K mg "measure" ["a", "b"] s_measure):Cal P w K mg base "measure" ["a", "b"] 1 qcb:=by
 have S:=qdG
 refine F.cal qdG (fun vs H Q E h=>?_) (fun f cdv A outer s H vs Q E hr h=>?_)
 ·obtain ⟨a,b,rfl,_⟩:=h; rfl
 obtain ⟨a,b,rfl,q⟩:=h
 refine ⟨_,(@pK _ _ _ _ _ (@qgi _ _ (0) (1) _ _ _ _ _ _ _ _ _ _ _ ⋯ (by exact S.nd) ⋯ ⋯ (by decide) ⋯ ⋯ (@pC _ _ _ _ _ (@qag _ _ _ _ _ _ _ _ _ qbY ⋯ (by exact T.z_abs) (by exact qdY) (@pC _ _ _ _ _ (pv 0) pN ⋯) ⋯ ⋯ ⋯ ⋯) (@pC _ _ _ _ _ (@qag _ _ _ _ _ _ _ _ _ qbY ⋯ (by exact T.z_abs) (by exact qdY) (@pC _ _ _ _ _ (pv 1) pN ⋯) ⋯ ⋯ ⋯ ⋯) pN ⋯) ⋯) ⋯ ⋯) (@pK _ _ _ _ _ (@qgh _ _ _ _ _ _ (by exact PassesOwn.never) (@qaL _ _ _ _ _ _ _ _ qlE (pv 1) pI (by exact (qaO _))) (@pO _ _ _ (@qgi _ _ (0) (1) _ _ _ _ _ _ _ _ _ _ _ ⋯ (by exact S.nd) ⋯ ⋯ (by decide) ⋯ ⋯ (@pC _ _ _ _ _ (pv 1) (@pC _ _ _ _ _ (@pP _ _ _ _ _ _ _ _ qbL (pv 0) (pv 1)) pN ⋯) ⋯) ⋯ ⋯))) (@pO _ _ _ (@qan _ _ _ _ (pv 0))))),?_⟩
 refine ⟨_,rfl,_,rfl,_,rfl,_,rfl,_,_,rfl,?_⟩
 refine qfZ (fun σ H'=>H'=H/\∃ x y:Int,σ=[some (.int x),some (.int y)]/\0≤x/\0≤y/\gI x y=gI a b) (fun σ _=>match σ with | [_,some (.int y)]=>y.toNat | _=>0) ⟨rfl,_,_,rfl,?_,?_,?_⟩ ?_ ?_
 ·split <;> omega
 ·split <;> omega
 ·exact qmY a b
 ·rintro σ H' ⟨rfl,x,y,rfl,hx,hy,hg⟩
  refine ⟨_,rfl,rfl,_,rfl,?_⟩
  refine ite2 (fun c=>?_) (fun c=>?_)
  ·have hy0:0 < y:=by
    have:¬ (V.int y=V.int 0):=by simpa using c
    have:y≠0:=fun e=>this (by rw [e])
    omega
   refine ⟨_,rfl,_,rfl,_,rfl,_,_,rfl,rfl,hy0,_,_,rfl,?_⟩
   have hm:=Int.emod_nonneg x (show y≠0 by omega)
   have hl:=Int.emod_lt_of_pos x hy0
   refine ⟨⟨rfl,_,_,rfl,hy,hm,?_⟩,?_⟩
   ·rw [qiL hx]; exact hg
   ·show (x % y).toNat < y.toNat
    omega
  ·have hy0:y=0:=by
    have:V.int y=V.int 0:=by simpa using c
    exact V.int.inj this
   subst hy0
   refine ⟨_,rfl,?_⟩
   rw [qiK hx] at hg
   rw [hg]
   exact q
 ·rintro σ H' Q1 Q2 hQ ⟨v,e,h1,b1,e2,h2⟩
  exact ⟨v,e,h1,b1,e2,hQ _ _ h2⟩
theorem qmQ {C R:Int->Hp->Prop}{G:Prop}(main:(∀ a h,C a h->R a h)->G)(key:∀ a h,C a h->R a h):G:=main key
theorem qeN (T:Txt mg)(F:FunAt K mg "_law_measure" ["_law_a", "_law_b"] s_l_measure):Cal P w K mg base "_law_measure" ["_law_a", "_law_b"] 1 qdD:=by
 have S:=qcD
 refine F.cal qcD (fun vs H Q E h=>?_) (fun f cdv A outer s H vs Q E hr h=>?_)
 ·obtain ⟨a,b,rfl,_⟩:=h; rfl
 obtain ⟨a,b,rfl,ha,hb,q⟩:=h
 refine ⟨_,(@pK _ _ _ _ _ (@qgh _ _ _ _ _ _ (by exact PassesOwn.never) (@qaL _ _ _ _ _ _ _ _ qlE (pv 1) pI (by exact (qaO _))) (@pO _ _ _ (@qgi _ _ (0) (1) _ _ _ _ _ _ _ _ _ _ _ ⋯ (by exact S.nd) ⋯ ⋯ (by decide) ⋯ ⋯ (@pC _ _ _ _ _ (pv 1) (@pC _ _ _ _ _ (@pP _ _ _ _ _ _ _ _ qbL (pv 0) (pv 1)) pN ⋯) ⋯) ⋯ ⋯))) (@pO _ _ _ (@qan _ _ _ _ (@qag _ _ _ _ _ _ _ _ _ qbY ⋯ (by exact T.z_abs) (by exact qdY) (@pC _ _ _ _ _ (pv 0) pN ⋯) ⋯ ⋯ ⋯ ⋯)))),?_⟩
 refine qfZ (fun σ H'=>H'=H/\∃ x y:Int,σ=[some (.int x),some (.int y)]/\0≤x/\0≤y/\gI x y=gI a b) (fun σ _=>match σ with | [_,some (.int y)]=>y.toNat | _=>0) ⟨rfl,_,_,rfl,ha,hb,rfl⟩ ?_ ?_
 ·rintro σ H' ⟨rfl,x,y,rfl,hx,hy,hg⟩
  refine ⟨_,rfl,rfl,_,rfl,?_⟩
  refine ite2 (fun c=>?_) (fun c=>?_)
  ·have hy0:0 < y:=by
    have:¬ (V.int y=V.int 0):=by simpa using c
    have:y≠0:=fun e=>this (by rw [e])
    omega
   refine ⟨_,rfl,_,rfl,_,rfl,_,_,rfl,rfl,hy0,_,_,rfl,?_⟩
   have hm:=Int.emod_nonneg x (show y≠0 by omega)
   have hl:=Int.emod_lt_of_pos x hy0
   refine ⟨⟨rfl,_,_,rfl,hy,hm,?_⟩,?_⟩
   ·rw [qiL hx]; exact hg
   ·show (x % y).toNat < y.toNat
    omega
  ·have hy0:y=0:=by
    have:V.int y=V.int 0:=by simpa using c
    exact V.int.inj this
   subst hy0
   refine ⟨_,rfl,_,rfl,?_⟩
   rw [qiK hx] at hg
   rw [if_neg (by omega:¬ x < 0)]
   rw [hg]
   exact q
 ·rintro σ H' Q1 Q2 hQ ⟨v,e,h1,b1,e2,h2⟩
  exact ⟨v,e,h1,b1,e2,hQ _ _ h2⟩
def lowF (t b:Int):Int × Int:=(t / gI t b,b / gI t b)
def qcO:Sp:=fun vs H Q _=>∃ t b:Int,vs=[.int t,.int b]/\0≤t/\0 < b/\Bt 8000 b/\∀ v H',Same H H'->PrAt H' v (lowF t b)->Q v H'
theorem qii (C_l_measure:Cal P w K mg base "_law_measure" ["_law_a", "_law_b"] 1 qdD)(F:FunAt K mg "_law_lowest" ["_law_top", "_law_bottom"] s_l_lowest):Cal P w K mg base "_law_lowest" ["_law_top", "_law_bottom"] 2 qcO:=by
 have S:=qc7
 refine F.cal qc7 (fun vs H Q E h=>?_) (fun f cdv A outer s H vs Q E hr h=>?_)
 ·obtain ⟨t,b,rfl,_⟩:=h; rfl
 obtain ⟨t,b,rfl,ht,hb,bb,k⟩:=h
 refine ⟨_,(@pK _ _ _ _ _ (@pZ _ _ (2) _ _ _ _ (by exact S.nd) ⋯ ⋯ (@cc _ _ _ _ _ _ _ _ _ _ (by exact C_l_measure) (by exact (hr.mono (by decide))) (@pC _ _ _ _ _ (pv 0) (@pC _ _ _ _ _ (pv 1) pN ⋯) ⋯) ⋯ ⋯ ⋯ ⋯) ⋯ ⋯) (@pO _ _ _ (@qan _ _ _ _ (@qaN _ _ _ _ _ (@pC _ _ _ _ _ (@pP _ _ _ _ _ _ _ _ qbU (pv 0) (pv 2)) (@pC _ _ _ _ _ (@pP _ _ _ _ _ _ _ _ qbU (pv 1) (pv 2)) pN ⋯) ⋯))))),?_⟩
 have g0:=qay (a:=t) (b:=b) (by omega)
 have gb:Bt 8000 (gI t b):=bb.gr (by omega)
 refine ⟨_,rfl,_,rfl,_,_,rfl,ht,by omega,?_⟩
 refine ⟨_,rfl,_,rfl,_,_,rfl,rfl,⟨g0,gb⟩,_,rfl,_,rfl,_,_,rfl,rfl,⟨g0,gb⟩,lz 2 rfl,fun p hp=>?_⟩
 exact k _ _ (sN hp _) ⟨p,rfl,uS⟩
theorem qlJ (T:Txt mg)(F:FunAt K mg "_law_pen" ["_law_script"] s_l_pen):Cal P w K mg base "_law_pen" ["_law_script"] 1 (qkK K):=by
 have S:=qf9
 refine F.cal qf9 (fun vs H Q E h=>?_) (fun f cdv A outer s H vs Q E hr h=>?_)
 ·obtain ⟨a,ns,rfl,_⟩:=h; rfl
 obtain ⟨a,ns,rfl,ha,k⟩:=h
 obtain ⟨ms,hms⟩:=qkr ns none (some 63)
 refine ⟨_,(@pO _ _ _ (@qan _ _ _ _ (@qbb _ _ _ _ (@pC _ _ _ _ _ (@qaB _ _ _ _ _ _ _ _ _ qbc ⋯ (by exact T.z_list) (by exact qdo) (@pC _ _ _ _ _ (@qcg _ _ _ _ _ _ _ _ _ _ qhR (pv 0) qdc (@qcs _ _ _ pI)) pN ⋯) ⋯ ⋯ ⋯ ⋯) (@pC _ _ _ _ _ pI (@pC _ _ _ _ _ pI pN ⋯) ⋯) ⋯)))),?_⟩
 refine ⟨_,rfl,_,rfl,a,_,rfl,ha,fun c hc=>?_⟩
 have s1:=sN hc (.lst (cutV (ns.map V.int) none (some 63)))
 refine ⟨c,_,rfl,.inl (SqL.of uS),fun d hd=>⟨lz 3 rfl,fun p hp=>?_⟩⟩
 have s2:=sN hd (.lst (cutV (ns.map V.int) none (some 63)))
 have s3:=sN hp (.lst [.ref d,.int 0,.int 0])
 have hdp:d≠p:=fun e=>by rw [<- e,uS] at hp; cases hp
 refine k p _ ((s1.trans s2).trans s3) ⟨d,ms,0,0,uS,hdp,?_,by omega,by omega⟩
 rw [uE hdp,uS,hms]
theorem qj0 (T:Txt mg)(F:FunAt K mg "_law_draw" ["_law_pen_here", "_law_many"] s_l_draw):Cal P w K mg base "_law_draw" ["_law_pen_here", "_law_many"] 1 qd9:=by
 have S:=qeG
 refine F.cal qeG (fun vs H Q E h=>?_) (fun f cdv A outer s H vs Q E hr h=>?_)
 ·obtain ⟨p,m,n,rfl,_⟩:=h; rfl
 obtain ⟨p,m,n,rfl,⟨c,ns,a,l,hp,hcp,hc,ha0,han⟩,hn,hm,hm2,k⟩:=h
 refine ⟨_,(@pK _ _ _ _ _ (@qcr _ _ _ _ _ _ _ _ (@qaL _ _ _ _ _ _ _ _ qfB (@qax _ _ _ _ _ _ _ qbd (pv 0) pI (by exact (fun _ _=>rfl))) pI (by exact (qaO _))) (@pK _ _ _ _ _ (@pZ _ _ (5) _ _ _ _ (by exact S.nd) ⋯ ⋯ (@pP _ _ _ _ _ _ _ _ qbL (@qax _ _ _ _ _ _ _ qbd (pv 0) pI (by exact (fun _ _=>rfl))) (pv 1)) ⋯ ⋯) (@pK _ _ _ _ _ (@qbH _ _ _ _ _ _ (@pP _ _ _ _ _ _ _ _ qde (@qax _ _ _ _ _ _ _ qbd (pv 0) pI (by exact (fun _ _=>rfl))) (pv 1)) (@qgn _ _ _ _ _ _ _ (pv 0) pI set_list ⋯) ⋯ ⋯ ⋯) (@pO _ _ _ (@qan _ _ _ _ (pv 5))))) qa8) (@pK _ _ _ _ _ (@pZ _ _ (2) _ _ _ _ (by exact S.nd) ⋯ ⋯ (@qax _ _ _ _ _ _ _ qbd (pv 0) pI (by exact (fun _ _=>rfl))) ⋯ ⋯) (@pK _ _ _ _ _ (@qbH _ _ _ _ _ _ (@pP _ _ _ _ _ _ _ _ qaF (pv 2) pI) (@qgn _ _ _ _ _ _ _ (pv 0) pI set_list ⋯) ⋯ ⋯ ⋯) (@pK _ _ _ _ _ (@pZ _ _ (3) _ _ _ _ (by exact S.nd) ⋯ ⋯ (@pP _ _ _ _ _ _ _ _ qaF (@pP _ _ _ _ _ _ _ _ qbf pI (pv 2)) pI) ⋯ ⋯) (@pK _ _ _ _ _ (@qcr _ _ _ _ _ _ _ _ (@qaL _ _ _ _ _ _ _ _ qfB (@qag _ _ _ _ _ _ _ _ _ qai ⋯ (by exact T.z_len) (by exact qa4) (@pC _ _ _ _ _ (@qax _ _ _ _ _ _ _ qbd (pv 0) pI (by exact (fun _ _=>rfl))) pN ⋯) ⋯ ⋯ ⋯ ⋯) pI (by exact (qaO _))) (@pO _ _ _ (@pZ _ _ (3) _ _ _ _ (by exact S.nd) ⋯ ⋯ (@qax _ _ _ _ _ _ _ qbd (@qax _ _ _ _ _ _ _ qbd (pv 0) pI (by exact (fun _ _=>rfl))) (@pP _ _ _ _ _ _ _ _ qbL (pv 2) (@qag _ _ _ _ _ _ _ _ _ qai ⋯ (by exact T.z_len) (by exact qa4) (@pC _ _ _ _ _ (@qax _ _ _ _ _ _ _ qbd (pv 0) pI (by exact (fun _ _=>rfl))) pN ⋯) ⋯ ⋯ ⋯ ⋯)) (by exact (fun _ _=>rfl))) ⋯ ⋯)) qa8) (@pK _ _ _ _ _ (@qcr _ _ _ _ _ _ _ _ (@PW.pt _ _ _ (@qmB _ _ _ _ _ _ _ (@qaL _ _ _ _ _ _ _ _ op_lt (pv 2) (@qag _ _ _ _ _ _ _ _ _ qai ⋯ (by exact T.z_len) (by exact qa4) (@pC _ _ _ _ _ (@qax _ _ _ _ _ _ _ qbd (pv 0) pI (by exact (fun _ _=>rfl))) pN ⋯) ⋯ ⋯ ⋯ ⋯) (by exact (qaO _))) (@qlm _ _ _ _ (@qaL _ _ _ _ _ _ _ _ qg3 (@qag _ _ _ _ _ _ _ _ _ qbY ⋯ (by exact T.z_abs) (by exact qdY) (@pC _ _ _ _ _ (pv 3) pN ⋯) ⋯ ⋯ ⋯ ⋯) (@pP _ _ _ _ _ _ _ _ qmI pI pI) (by exact (qaO _)))))) (@pK _ _ _ _ _ (@qbH _ _ _ _ _ _ (@pP _ _ _ _ _ _ _ _ qde (@qag _ _ _ _ _ _ _ _ _ qbY ⋯ (by exact T.z_abs) (by exact qdY) (@pC _ _ _ _ _ (pv 3) pN ⋯) ⋯ ⋯ ⋯ ⋯) (pv 1)) (@qgn _ _ _ _ _ _ _ (pv 0) pI set_list ⋯) ⋯ ⋯ ⋯) (@pO _ _ _ (@qan _ _ _ _ (@pP _ _ _ _ _ _ _ _ qbL (@qag _ _ _ _ _ _ _ _ _ qbY ⋯ (by exact T.z_abs) (by exact qdY) (@pC _ _ _ _ _ (pv 3) pN ⋯) ⋯ ⋯ ⋯ ⋯) (pv 1))))) qa8) (@pK _ _ _ _ _ (@pZ _ _ (4) _ _ _ _ (by exact S.nd) ⋯ ⋯ (@pP _ _ _ _ _ _ _ _ qbL (@pP _ _ _ _ _ _ _ _ qbf (@pP _ _ _ _ _ _ _ _ qaF (@pP _ _ _ _ _ _ _ _ qaF (@pP _ _ _ _ _ _ _ _ qbL (pv 3) pI) (@pP _ _ _ _ _ _ _ _ qbf pI (pv 2))) pI) pI) pI) ⋯ ⋯) (@pK _ _ _ _ _ (@pZ _ _ (4) _ _ _ _ (by exact S.nd) ⋯ ⋯ (@pP _ _ _ _ _ _ _ _ qbL (@pP _ _ _ _ _ _ _ _ qaF (@pP _ _ _ _ _ _ _ _ qaF (@pP _ _ _ _ _ _ _ _ qbf (@pP _ _ _ _ _ _ _ _ qbf (pv 4) (pv 4)) (pv 4)) (@pP _ _ _ _ _ _ _ _ qbf pI (pv 4))) (pv 2)) pI) ⋯ ⋯) (@pO _ _ _ (@qan _ _ _ _ (@pP _ _ _ _ _ _ _ _ qbL (@pP _ _ _ _ _ _ _ _ qde (@pP _ _ _ _ _ _ _ _ qbL (@pP _ _ _ _ _ _ _ _ qbf (pv 4) (@pP _ _ _ _ _ _ _ _ qaF (@pP _ _ _ _ _ _ _ _ qbL (pv 4) pI) pI)) pI) pI) (pv 1)))))))))))),?_⟩
 apply qmQ (C:=fun (x:Int) (H':Hp)=>PenY H' p (n + 1)/\qbh p H H')
 case main =>
  intro key
  refine ⟨_,rfl,p,_,_,_,rfl,rfl,SqL.of hp,rfl,_,_,rfl,rfl,_,rfl,?_⟩
  refine ite2 (fun _=>?_) (fun _=>?_)
  ·refine ⟨_,rfl,p,_,_,_,rfl,rfl,SqL.of hp,rfl,_,rfl,_,_,rfl,rfl,hm,?_⟩
   refine ⟨_,rfl,p,_,_,_,rfl,rfl,SqL.of hp,rfl,_,rfl,_,_,rfl,rfl,⟨hm,hm2⟩,_,rfl,p,_,_,_,rfl,rfl,hp,rfl,?_⟩
   refine ⟨_,rfl,?_⟩
   exact k _ _ (Int.emod_nonneg _ (by omega)) (Int.emod_lt_of_pos _ hm) ⟨c,ns,a,_,uS,hcp,by rw [uE hcp]; exact hc,ha0,by omega⟩ (qbh.upd hp)
  refine ⟨_,rfl,p,_,_,_,rfl,rfl,SqL.of hp,rfl,?_⟩
  refine ⟨_,rfl,_,_,rfl,rfl,_,rfl,p,_,_,_,rfl,rfl,hp,rfl,?_⟩
  have hp1:(upd H p (.lst (penV c (a + 1) l))) p=some (.lst (penV c (a + 1) l)):=uS
  have hc1:(upd H p (.lst (penV c (a + 1) l))) c=some (.lst (ns.map V.int)):=by rw [uE hcp]; exact hc
  have x1:qbh p H (upd H p (.lst (penV c (a + 1) l))):=qbh.upd hp
  have es:(penV c a l).set (Int.toNat 1) (V.int (a + 1))=penV c (a + 1) l:=rfl
  rw [es]
  generalize upd H p (.lst (penV c (a + 1) l))=H1 at hp1 hc1 x1
  have pen1:PenY H1 p (n + 1):=⟨c,ns,a + 1,l,hp1,hcp,hc1,by omega,by omega⟩
  have ha1:a≤100000:=by omega
  refine ⟨_,rfl,_,_,rfl,rfl,.inl ⟨by decide,by decide⟩,_,_,rfl,rfl,?_⟩
  refine ⟨_,rfl,p,_,_,_,rfl,rfl,SqL.of hp1,rfl,c,_,rfl,.inl (SqL.of hc1),_,_,rfl,rfl,_,rfl,?_⟩
  refine ite2 (fun c0=>?_) (fun c0=>?_)
  ·have hl:0 < ns.length:=by
    have:(0:Int) < (((ns.map V.int).length:Nat):Int):=of_decide_eq_true c0
    rw [List.length_map] at this
    omega
   obtain ⟨z,hz⟩:=qme (ns:=ns) a hl
   refine ⟨_,rfl,p,_,_,_,rfl,rfl,SqL.of hp1,rfl,_,rfl,_,rfl,p,_,_,_,rfl,rfl,SqL.of hp1,rfl,c,_,rfl,.inl (SqL.of hc1),_,_,rfl,rfl,(by rw [List.length_map]; omega),c,_,_,_,rfl,rfl,SqL.of hc1,hz,?_⟩
   refine ⟨_,rfl,_,rfl,p,_,_,_,rfl,rfl,SqL.of hp1,rfl,c,_,rfl,.inl (SqL.of hc1),_,_,rfl,rfl,_,rfl,?_⟩
   refine ite2 (fun c1=>?_) (fun c1=>iteF ?_)
   ·refine ⟨_,rfl,_,rfl,_,_,rfl,rfl,⟨by decide,by decide,by decide⟩,_,_,rfl,rfl,_,rfl,?_⟩
    refine ite2 (fun c2=>?_) (fun c2=>?_)
    ·refine ⟨_,rfl,_,rfl,_,rfl,_,_,rfl,rfl,⟨hm,hm2⟩,_,rfl,p,_,_,_,rfl,rfl,hp1,rfl,?_⟩
     refine ⟨_,rfl,_,rfl,_,rfl,_,_,rfl,rfl,hm,?_⟩
     exact k _ _ (Int.emod_nonneg _ (by omega)) (Int.emod_lt_of_pos _ hm) ⟨c,ns,a + 1,_,uS,hcp,by rw [uE hcp]; exact hc1,by omega,by omega⟩ (x1.trans (qbh.upd hp1))
    ·exact key z H1 ⟨pen1,x1⟩
   ·exact key z H1 ⟨pen1,x1⟩
  ·refine ⟨_,rfl,_,rfl,p,_,_,_,rfl,rfl,SqL.of hp1,rfl,c,_,rfl,.inl (SqL.of hc1),_,_,rfl,rfl,_,rfl,?_⟩
   refine ite2 (fun c1=>?_) (fun c1=>iteF ?_)
   ·exfalso
    have e1:¬ (0:Int) < (((ns.map V.int).length:Nat):Int):=by simpa using c0
    have e2:a < (((ns.map V.int).length:Nat):Int):=of_decide_eq_true c1
    omega
   ·exact key (30011 * a + 13) H1 ⟨pen1,x1⟩
 case key =>
  rintro x H' ⟨pen1,x1⟩
  have a1:a≤100000:=by omega
  have e0:=Int.emod_nonneg x (show (2147483587:Int)≠0 by decide)
  have e1:=Int.emod_lt_of_pos x (show (0:Int) < 2147483587 by decide)
  refine ⟨_,rfl,_,_,rfl,rfl,(show (0:Int) < 2147483587 by decide),_,rfl,_,_,rfl,rfl,.inl ⟨by decide,by decide⟩,_,_,rfl,rfl,_,_,rfl,rfl,_,_,rfl,rfl,.inr ⟨by decide,by decide⟩,_,_,rfl,rfl,(show (0:Int) < 2147483629 by decide),?_⟩
  have w0:=Int.emod_nonneg ((x % 2147483587 + 50021 * a + 23) * 48271) (show (2147483629:Int)≠0 by decide)
  have w1:=Int.emod_lt_of_pos ((x % 2147483587 + 50021 * a + 23) * 48271) (show (0:Int) < 2147483629 by decide)
  generalize (x % 2147483587 + 50021 * a + 23) * 48271 % 2147483629=y at w0 w1
  refine ⟨_,rfl,_,rfl,_,_,rfl,rfl,.inl ⟨by omega,by omega⟩,_,rfl,_,_,rfl,rfl,.inr ⟨by omega,by omega⟩,_,rfl,_,_,rfl,rfl,.inl ⟨by decide,by decide⟩,_,_,rfl,rfl,_,rfl,_,_,rfl,rfl,_,_,rfl,rfl,(show (0:Int) < 2147483563 by decide),?_⟩
  have u0:=Int.emod_nonneg (y * y * y + 69621 * y + a) (show (2147483563:Int)≠0 by decide)
  have u1:=Int.emod_lt_of_pos (y * y * y + 69621 * y + a) (show (0:Int) < 2147483563 by decide)
  generalize (y * y * y + 69621 * y + a) % 2147483563=z at u0 u1
  refine ⟨_,rfl,_,rfl,_,_,rfl,rfl,(show (0:Int) < 40009 by decide),_,_,rfl,rfl,_,_,rfl,rfl,.inl ⟨by omega,by omega⟩,_,_,rfl,rfl,(show (0:Int) < 2147483549 by decide),?_⟩
  refine ⟨_,_,rfl,rfl,⟨by decide,by decide⟩,_,rfl,_,_,rfl,rfl,hm,?_⟩
  exact k _ _ (Int.emod_nonneg _ (by omega)) (Int.emod_lt_of_pos _ hm) pen1 x1
theorem qaR {α:Type}(f:Nat->α)(i:Nat):(List.range (i + 1)).map f=(List.range i).map f ++ [f i]:=by
 rw [List.range_succ,List.map_append]; rfl
def qez:Sp:=fun vs H Q _=>∃ l ns,vs=[.ref l]/\H l=some (.lst (iv ns))/\ns.length < 64/\∀ (a:Addr) (ms:List Int) (H':Hp),ms.Perm ns->ms.Pairwise (· ≥ ·)->H' a=some (.tup (iv ms))->Same H H'->Q (.ref a) H'
theorem qg8 (T:Txt2 mg)(F:FunAt K mg "falling" ["numbers"] s_falling):Cal P w K mg base "falling" ["numbers"] 1 qez:=by
 have S:=qdK
 refine F.cal qdK (fun vs H Q E h=>?_) (fun f cdv A outer s H vs Q E hr h=>?_)
 ·obtain ⟨l,ns,rfl,_⟩:=h; rfl
 obtain ⟨l,ns,rfl,hl,h64,k⟩:=h
 refine ⟨_,(@pO _ _ _ (@qan _ _ _ _ (@qaB _ _ _ _ _ _ _ _ _ qaM ⋯ (by exact T.z_tuple) (by exact qbE) (@pC _ _ _ _ _ (@qg2 _ _ _ _ _ _ _ _ _ ⋯ (by exact T.z_sorted) (@pC _ _ _ _ _ (pv 0) pN ⋯) ⋯ ⋯) pN ⋯) ⋯ ⋯ ⋯ ⋯))),?_⟩
 refine ⟨_,rfl,l,ns,rfl,hl,h64,fun q ms hq pm od=>?_⟩
 have s1:=sN hq (.lst (iv ms))
 refine ⟨q,iv ms,rfl,.inl ⟨SqL.of uS,fun t ht=>?_⟩⟩
 exact k t ms _ pm od uS (s1.trans (sN ht _))
def qhM:Sp:=fun vs H Q _=>∃ a ns j x,vs=[.ref a,.int ((j:Nat):Int)]/\H a=some (.tup (iv ns))/\ns.length≤6/\ns[j]?=some x/\∀ (b:Addr) (ms:List Int) (H':Hp),ms.Perm (ns.set j (x + 1))->ms.Pairwise (· ≥ ·)->H' b=some (.tup (iv ms))->Same H H'->Q (.ref b) H'
theorem qjX (T:Txt2 mg)(C_falling:Cal P w K mg base "falling" ["numbers"] 1 qez)(F:FunAt K mg "put_at" ["load", "rank"] s_put_at):Cal P w K mg base "put_at" ["load", "rank"] 2 qhM:=by
 have S:=qeC
 refine F.cal qeC (fun vs H Q E h=>?_) (fun f cdv A outer s H vs Q E hr h=>?_)
 ·obtain ⟨a,ns,j,x,rfl,_⟩:=h; rfl
 obtain ⟨a,ns,j,x,rfl,ha,h6,hx,k⟩:=h
 have hj:j < ns.length:=(List.getElem?_eq_some_iff.mp hx).1
 refine ⟨_,(@pK _ _ _ _ _ (@pZ _ _ (2) _ _ _ _ (by exact S.nd) ⋯ ⋯ (@qaB _ _ _ _ _ _ _ _ _ qbc ⋯ (by exact T.z_list) (by exact qdo) (@pC _ _ _ _ _ (pv 0) pN ⋯) ⋯ ⋯ ⋯ ⋯) ⋯ ⋯) (@pK _ _ _ _ _ (@qh1 _ _ _ _ _ _ _ _ _ _ _ _ _ (pv 2) (pv 1) qgB pI qk0 set_list ⋯) (@pO _ _ _ (@qan _ _ _ _ (@cc _ _ _ _ _ _ _ _ _ _ (by exact C_falling) (by exact (hr.mono (by decide))) (@pC _ _ _ _ _ (pv 2) pN ⋯) ⋯ ⋯ ⋯ ⋯))))),?_⟩
 refine ⟨_,rfl,a,_,rfl,.inr (SqT.of ha),fun l hl=>?_⟩
 have s1:=sN hl (.lst (iv ns))
 refine ⟨_,rfl,_,rfl,l,iv ns,(j:Int),.int x,rfl,rfl,by omega,uS,qnb hx,x,1,rfl,rfl,l,iv ns,(j:Int),j,rfl,rfl,uS,qlW (by simpa using hj),?_⟩
 rw [qkX,qfj]
 refine ⟨_,rfl,l,ns.set j (x + 1),rfl,uS,by simp; omega,fun b ms H' pm od hb s2=>?_⟩
 exact k b ms H' pm od hb ((sN hl _).trans s2)
end
end My
namespace My
open PySem L2 MA Srt
theorem qeB {H:Hp}{l:Addr}{zs:List V}{o:HO}{v:V}{q:Rat}(hl:H l=some (.lst zs))(h:ShAt H v q):ShAt (upd H l o) v q:=by
 obtain ⟨a,rfl,ha⟩:=h
 exact ⟨a,rfl,by rw [uE (qdt ha hl (by intro z; cases z))]; exact ha⟩
theorem Shs.updL {H:Hp}{l:Addr}{zs:List V}{o:HO}(hl:H l=some (.lst zs)):∀ {xs:List V} {qs:List Rat},Shs H xs qs->Shs (upd H l o) xs qs
 | _,_,.nil => .nil
 | _,_,.cons r t => .cons (qeB hl r) (Shs.updL hl t)
theorem Shs.snoc {H:Hp}{v:V}{q:Rat}(h:ShAt H v q):∀ {xs:List V} {qs:List Rat},Shs H xs qs->Shs H (xs ++ [v]) (qs ++ [q])
 | _,_,.nil => .cons h .nil
 | _,_,.cons r t => .cons r (Shs.snoc h t)
theorem Shs.length {H:Hp}{xs:List V}{qs:List Rat}(h:Shs H xs qs):xs.length=qs.length:=Paired.length h
theorem Shs.at {H:Hp}{xs:List V}{qs:List Rat}{i:Nat}{x:V}(h:Shs H xs qs)(e:xs[i]?=some x):∃ q,qs[i]?=some q/\ShAt H x q:=Paired.at' h e
abbrev prq (q:Rat):Int × Int:=(q.num,(q.den:Int))
theorem qhS:∀ {H:Hp} {qs:List Rat} {xs:List V},Prs H xs (qs.map prq)->Shs H xs qs
 | _,[],_,.nil => .nil
 | _,q :: qs,_,.cons r t => .cons r (qhS t)
theorem qdu {t b:Int}(hb:0 < b):lowF t b=prq (Rat.divInt t b):=by
 have:=qbI (t:=t) hb
 unfold lowF prq
 rw [this.1,this.2]
def tpF (L:Int)(qs:List Rat):List Int:=qs.map fun q=>q.num * (L / (q.den:Int))
def lqF (qs:List Rat)(b:Int):Int:=qs.foldl (fun b q=>b / gI b (q.den:Int) * (q.den:Int)) b
theorem qfI {b d:Int}(hb:0 < b)(hd:0 < d):0 < b / gI b d * d/\b ∣ b / gI b d * d/\d ∣ b / gI b d * d:=by
 have g0:=qay (a:=b) (b:=d) (by omega)
 have g1:=qbk b d
 have g2:=qaV b d
 refine ⟨?_,?_,Int.dvd_mul_left _ _⟩
 ·refine Int.mul_pos ?_ hd
  exact Int.ediv_pos_of_pos_of_dvd hb (by omega) g1
 ·obtain ⟨k,hk⟩:=g2
  have e:b / gI b d * d=b * k:=by
   rw [show b / gI b d * d=b / gI b d * (gI b d * k) by rw [<- hk],<- Int.mul_assoc,Int.ediv_mul_cancel g1]
  rw [e]
  exact Int.dvd_mul_right _ _
theorem qbN:∀ (qs:List Rat) (b:Int),0 < b->0 < lqF qs b/\b ∣ lqF qs b/\∀ q∈qs,(q.den:Int) ∣ lqF qs b
 | [],b,h=>⟨h,Int.dvd_refl _,by simp⟩
 | q :: qs,b,h=>by
  obtain ⟨p1,p2,p3⟩:=qfI (d:=(q.den:Int)) h (by have:=q.den_pos; omega)
  obtain ⟨i1,i2,i3⟩:=qbN qs _ p1
  refine ⟨i1,Int.dvd_trans p2 i2,fun r hr=>?_⟩
  rcases List.mem_cons.mp hr with rfl | hr
  ·exact Int.dvd_trans p3 i2
  ·exact i3 r hr
theorem qiu:∀ (qs:List Rat) (b:Int) (m:Nat),0 < b->Bt m b->(∀ q∈qs,SB 50 q)->Bt (m + 50 * qs.length) (lqF qs b)
 | [],b,m,_,h,_=>h
 | q :: qs,b,m,h0,h,hq=>by
  obtain ⟨p1,_,_⟩:=qfI (d:=(q.den:Int)) h0 (by have:=q.den_pos; omega)
  have g0:=qay (a:=b) (b:=(q.den:Int)) (by have:=q.den_pos; omega)
  have:=qiu qs _ (m + 50) p1 ((h.ediv g0).mul (hq q (by simp)).2) fun r hr=>hq r (by simp [hr])
  exact this.mono (by simp; omega)
theorem qlT {qs:List Rat}{i:Nat}{q:Rat}(h:qs[i]?=some q):lqF (qs.take (i + 1)) 1=lqF (qs.take i) 1 / gI (lqF (qs.take i) 1) (q.den:Int) * (q.den:Int):=by
 unfold lqF
 rw [List.take_add_one,h,List.foldl_append]
 rfl
def qat (t:Int)(bs:List Int):Int × Int:=bs.foldl (fun s x=>(s.1 / gI s.1 x,s.2 * (x / gI s.1 x))) (t,1)
theorem qkU:∀ (qs:List Rat) (b S:Int),0 < b->0 < S->b ∣ S->(∀ q∈qs,(q.den:Int) ∣ S)->lqF qs b ∣ S
 | [],b,S,_,_,h,_=>h
 | q :: qs,b,S,hb,hS,h,hq=>by
  obtain ⟨p1,_,_⟩:=qfI (d:=(q.den:Int)) hb (by have:=q.den_pos; omega)
  refine qkU qs _ S p1 hS ?_ fun r hr=>hq r (by simp [hr])
  have hd:=hq q (by simp)
  have d0:(0:Int) < (q.den:Int):=by have:=q.den_pos; omega
  have g0:=qay (a:=b) (b:=(q.den:Int)) (by omega)
  have g1:=qbk b (q.den:Int)
  have e:b / gI b (q.den:Int) * (q.den:Int)=((b.natAbs.lcm q.den:Nat):Int):=by
   obtain ⟨m,rfl⟩:∃ m:Nat,b=(m:Int):=⟨b.natAbs,by omega⟩
   show (m:Int) / ((m.gcd q.den:Nat):Int) * (q.den:Int)=((m.lcm q.den:Nat):Int)
   rw [<- Int.natCast_ediv,<- Int.natCast_mul,Nat.div_mul_right_comm (Nat.gcd_dvd_left _ _)]
   rfl
  show b / gI b (q.den:Int) * (q.den:Int) ∣ S
  rw [e]
  have hbn:b.natAbs ∣ S.natAbs:=Int.natAbs_dvd_natAbs.mpr h
  have hdn:q.den ∣ S.natAbs:=by have:=Int.natAbs_dvd_natAbs.mpr hd; simpa using this
  have:=Nat.lcm_dvd hbn hdn
  have:=Int.natCast_dvd_natCast.mpr this
  rwa [Int.natAbs_of_nonneg (by omega)] at this
theorem tp_at {L:Int}{q:Rat}(hd:(q.den:Int) ∣ L){t b:Int}(hb:0 < b)(e:q=Rat.divInt t b):q.num * (L / (q.den:Int)) * b=t * L:=by
 obtain ⟨k,hk⟩:=hd
 have d0:(0:Int) < (q.den:Int):=by have:=q.den_pos; omega
 rw [hk,Int.mul_ediv_cancel_left _ (by omega)]
 have h1:q.num * b=t * (q.den:Int):=by
  have:=(Rat.divInt_eq_divInt_iff (n₁:=q.num) (n₂:=t) (d₁:=(q.den:Int)) (d₂:=b) (by omega) (by omega)).mp (by rw [<- e]; exact Rat.num_divInt_den q)
  exact this
 rw [show q.num * k * b=q.num * b * k by rw [Int.mul_right_comm],h1,Int.mul_assoc]
theorem qh9 (q:Rat){x:Int}(hx:0 < x){t b:Int}(hb:0 < b)(e:q=Rat.divInt t b):(q.num / gI q.num x,(q.den:Int) * (x / gI q.num x))=prq (Rat.divInt t (b * x)):=by
 have d0:(0:Int) < (q.den:Int):=by have:=q.den_pos; omega
 have e2:Rat.divInt t (b * x)=Rat.divInt q.num ((q.den:Int) * x):=by
  rw [Rat.divInt_eq_divInt_iff (by have:=Int.mul_pos hb hx; omega) (by have:=Int.mul_pos d0 hx; omega)]
  have h1:q.num * b=t * (q.den:Int):=by
   have:=(Rat.divInt_eq_divInt_iff (n₁:=q.num) (n₂:=t) (d₁:=(q.den:Int)) (d₂:=b) (by omega) (by omega)).mp (by rw [<- e]; exact Rat.num_divInt_den q)
   exact this
  rw [<- Int.mul_assoc,<- h1]; rw [Int.mul_assoc]
 have sp:=qbI (t:=q.num) (Int.mul_pos d0 hx)
 have eg:gI q.num ((q.den:Int) * x)=gI q.num x:=by
  unfold gI
  congr 1
  show q.num.natAbs.gcd ((q.den:Int) * x).natAbs=q.num.natAbs.gcd x.natAbs
  rw [Int.natAbs_mul]
  exact Nat.Coprime.gcd_mul_left_cancel_right _ (by simpa using q.reduced.symm)
 rw [eg] at sp
 rw [e2]
 unfold prq
 rw [<- sp.1,<- sp.2]
 congr 1
 exact (Int.mul_ediv_assoc _ (qaV q.num x)).symm
theorem qeg {t:Int}:∀ (n:Nat) (bs:List Int),bs.length=n->(∀ b∈bs,0 < b)->qat t bs=prq (Rat.divInt t bs.prod)
 | 0,bs,h,_=>by
  have:bs=[]:=List.length_eq_zero_iff.mp h
  subst this
  have:=qbI (t:=t) (b:=1) (by decide)
  show (t,1)=_
  unfold prq
  rw [List.prod_nil,<- this.1,<- this.2]
  have:gI t 1=1:=by unfold gI; simp
  rw [this,Int.ediv_one]; rfl
 | n + 1,bs,h,hb=>by
  obtain ⟨l,x,rfl⟩:∃ l x,bs=l ++ [x]:=by
   rcases List.eq_nil_or_concat bs with e | ⟨l,r,e⟩
   ·subst e; simp at h
   ·exact ⟨l,r,by rw [e,List.concat_eq_append]⟩
  have ih:=qeg (t:=t) n l (by simpa using h) fun b hb'=>hb b (by simp [hb'])
  have e:qat t (l ++ [x])=((qat t l).1 / gI (qat t l).1 x,(qat t l).2 * (x / gI (qat t l).1 x)):=by unfold qat; rw [List.foldl_append]; rfl
  have hp:0 < l.prod:=by
   have:∀ (l:List Int),(∀ b∈l,0 < b)->0 < l.prod:=by
    intro l
    induction l with
    | nil=>intro _; simp
    | cons a l ih=>intro h; rw [List.prod_cons]; exact Int.mul_pos (h a (by simp)) (ih fun b hb=>h b (by simp [hb]))
   exact this l fun b hb'=>hb b (by simp [hb'])
  rw [e,ih,List.prod_append,List.prod_cons,List.prod_nil,Int.mul_one]
  exact qh9 _ (hb x (by simp)) hp rfl
def qcl (l:List Int):List Int:=l.mergeSort fun a b=>decide (b≤a)
theorem qbO (l:List Int):(qcl l).Perm l:=List.mergeSort_perm l _
theorem qe2 (l:List Int):(qcl l).Pairwise (· ≥ ·):=by
 have:=List.pairwise_mergeSort (le:=fun a b:Int=>decide (b≤a)) (fun a b c h1 h2=>by simp at *; omega) (fun a b=>by simp; omega) l
 exact this.imp fun {a b} h=>by simpa using h
theorem qiO {ms l:List Int}(h:ms.Perm l)(d:ms.Pairwise (· ≥ ·)):ms=qcl l :=
 List.Perm.eq_of_pairwise (le:=fun x y=>x ≥ y) (fun x y _ _ h1 h2=>by omega) d (qe2 l) (h.trans (qbO l).symm)
theorem qfR (l:List Int):(qcl l).length=l.length:=(qbO l).length_eq
def putL (l:List Int)(r:Nat):List Int:=qcl (l.set r (l.getD r 0 + 1))
def qbm (c:List Int)(n:Nat)(l:List Int):Mp:=(List.range n).flatMap fun r=>if 0 < c.getD r 0 then [(putL l r,c.getD r 0)] else []
theorem qbt (c:List Int)(n:Nat)(l:List Int):qbm c (n + 1) l=qbm c n l ++ if 0 < c.getD n 0 then [(putL l n,c.getD n 0)] else []:=by
 unfold qbm; rw [List.range_succ,List.flatMap_append]; simp
theorem qiJ {c:List Int}(h0:∀ x∈c,0≤x)(l:List Int):(qau (qbm c c.length l)).sum=c.sum:=by
 have:∀ n,n≤c.length->(qau (qbm c n l)).sum=(c.take n).sum:=by
  intro n
  induction n with
  | zero=>intro _; simp [qbm,qau]
  | succ n ih =>
   intro hn
   have hl:n < c.length:=by omega
   rw [qbt,List.take_succ_eq_append_getElem hl,List.sum_append]
   have e:c.getD n 0=c[n]:=by simp [hl]
   have ih':=ih (by omega)
   unfold qau at ih' ⊢
   rw [List.map_append,List.sum_append,ih',e]
   congr 1
   by_cases z:0 < c[n]
   ·rw [if_pos z]; simp
   ·rw [if_neg z]
    have:=h0 c[n] (List.getElem_mem hl)
    simp; omega
 have:=this c.length (Nat.le_refl _)
 rwa [List.take_length] at this
abbrev Spd:=List (List Int × Rat)
def RwAt (H:Hp)(v:V)(r:List Int × Rat):Prop:=∃ a b v2,v = .ref a/\H a=some (.tup [.ref b,v2])/\H b=some (.tup (iv r.1))/\ShAt H v2 r.2
def SpAt (H:Hp)(l:Addr)(rs:Spd):Prop:=∃ xs,H l=some (.lst xs)/\Paired (RwAt H) xs rs
theorem RwAt.imp {H H':Hp}{v:V}{r:List Int × Rat}(k:∀ b xs,H b=some (.tup xs)->H' b=some (.tup xs))(h:RwAt H v r):RwAt H' v r:=by
 obtain ⟨a,b,v2,e,h1,h2,c,e2,h3⟩:=h
 exact ⟨a,b,v2,e,k _ _ h1,k _ _ h2,c,e2,k _ _ h3⟩
theorem SpAt.same {H H':Hp}{l:Addr}{rs:Spd}(s:Same H H')(h:SpAt H l rs):SpAt H' l rs:=let ⟨xs,e,r⟩:=h; ⟨xs,s _ _ e,Paired.mapP r fun _ _ z=>z.imp fun b xs e=>s b _ e⟩
def sprF (m:Mp)(W:Int):Spd:=(rise (qaf m)).map fun k=>(k,Rat.divInt (getM m k) W)
theorem qgq {qs:List Rat}{S:Int}(hS:0 < S)(bS:Bt 3000 S)(hd:∀ q∈qs,(q.den:Int) ∣ S)(i:Nat):0 < lqF (qs.take i) 1/\Bt 3000 (lqF (qs.take i) 1):=by
 have h0:=(qbN (qs.take i) 1 (by decide)).1
 have h1:=Int.le_of_dvd hS (qkU (qs.take i) 1 S (by decide) hS (Int.one_dvd _) fun q h=>hd q (List.mem_of_mem_take h))
 exact ⟨h0,bS.of_le (by omega)⟩
section
variable {P:Program}{w:World}{K:PySem.W.Frag}{mg:Str->Option Value}{base:Heap}
def qcN:Sp:=fun vs H Q _=>∃ (l:Addr) (xs:List V) (qs:List Rat),vs=[.ref l]/\H l=some (.lst xs)/\Shs H xs qs/\(∀ q∈qs,SB 3000 q)/\(∃ S:Int,0 < S/\Bt 3000 S/\∀ q∈qs,(q.den:Int) ∣ S)/\qs.length≤100000 /\
 ∀ (t c:Addr) (H':Hp),Same H H'->H' t=some (.tup [.ref c,.int (lqF qs 1)])->H' c=some (.lst (iv (tpF (lqF qs 1) qs)))->Q (.ref t) H'
theorem qid (C_measure:Cal P w K mg base "measure" ["a", "b"] 1 qcb)(F:FunAt K mg "weighed" ["some"] s_weighed):Cal P w K mg base "weighed" ["some"] 2 qcN:=by
 have S:=qbT
 refine F.cal qbT (fun vs H Q E h=>?_) (fun f cdv A outer s H vs Q E hr h=>?_)
 ·obtain ⟨l,xs,qs,rfl,_⟩:=h; rfl
 obtain ⟨l,xs,qs,rfl,hl,shs,bq,⟨Sb,S0,bS,hdS⟩,hn,k⟩:=h
 have xl:=shs.length
 refine ⟨_,(@pK _ _ _ _ _ (@pZ _ _ (1) _ _ _ _ (by exact S.nd) ⋯ ⋯ pI ⋯ ⋯) (@pK _ _ _ _ _ (@qbj _ _ _ _ _ _ _ _ (by exact PassesOwn.never) ⋯ (@qaS _ _ _ _ (pv 0)) (@pG _ _ (2) _ (by exact S.nd) ⋯ ⋯ ⋯) (@pO _ _ _ (@pZ _ _ (1) _ _ _ _ (by exact S.nd) ⋯ ⋯ (@pP _ _ _ _ _ _ _ _ qbx (@pP _ _ _ _ _ _ _ _ qbU (pv 1) (@cc _ _ _ _ _ _ _ _ _ _ (by exact C_measure) (by exact (hr.mono (by decide))) (@pC _ _ _ _ _ (pv 1) (@pC _ _ _ _ _ (@qax _ _ _ _ _ _ _ qa9 (pv 2) pI (by exact (fun _ _=>rfl))) pN ⋯) ⋯) ⋯ ⋯ ⋯ ⋯)) (@qax _ _ _ _ _ _ _ qa9 (pv 2) pI (by exact (fun _ _=>rfl)))) ⋯ ⋯)) ⋯) (@pO _ _ _ (@qan _ _ _ _ (@qaN _ _ _ _ _ (@pC _ _ _ _ _ (@qaE _ _ _ _ _ _ _ _ _ _ _ _ _ ⋯ (by exact (fun _ _ h=>h)) (by decide +kernel) ⋯ (by decide +kernel) (by exact qaJ rfl) (by exact Sees.frees ["one"] [("bottom",1)] (qal ⟨rfl,rfl⟩ qaK)) (@qaS _ _ _ _ (pv 0)) (fun _ _ _ _ _ => @pG _ _ (0) _ (by exact (show (["one", "bottom"]:List Str).Nodup by decide +kernel)) ⋯ ⋯ ⋯) (fun _ _ _ _ _=>qaG) (fun _ _ _ _ _=>(@pP _ _ _ _ _ _ _ _ qbx (@qax _ _ _ _ _ _ _ qa9 (pv 0) pI (by exact (fun _ _=>rfl))) (@pP _ _ _ _ _ _ _ _ qbU (pv 1) (@qax _ _ _ _ _ _ _ qa9 (pv 0) pI (by exact (fun _ _=>rfl)))))) ⋯) (@pC _ _ _ _ _ (pv 1) pN ⋯) ⋯)))))),?_⟩
 refine ⟨_,rfl,l,rfl,⟨_,SqL.of hl⟩,qcT (xs:=xs) (fun i σ H'=>H'=H/\∃ o,σ=[some (.ref l),some (.int (lqF (qs.take i) 1)),o]) ?_ ?_ ?_ ?_⟩
 ·exact ⟨rfl,_,rfl⟩
 ·rintro i σ H' _ ⟨rfl,_⟩
  exact SqL.of hl
 ·rintro i x σ H' hx ⟨rfl,o,rfl⟩
  obtain ⟨q,hq,⟨a,rfl,ha⟩⟩:=shs.at hx
  obtain ⟨b0,b1⟩:=qgq S0 bS hdS i
  have qb:=bq q (List.mem_of_getElem? hq)
  have g0:=qay (a:=lqF (qs.take i) 1) (b:=(q.den:Int)) (by have:=q.den_pos; omega)
  have gb:Bt 8000 (gI (lqF (qs.take i) 1) (q.den:Int)):=(qb.2.gr (by have:=q.den_pos; omega)).mono (by decide)
  refine ⟨_,rfl,_,rfl,_,rfl,a,_,_,_,rfl,rfl,ha,rfl,_,_,rfl,_,_,rfl,rfl,⟨g0,gb⟩,_,rfl,a,_,_,_,rfl,rfl,ha,rfl,_,_,rfl,rfl,⟨(b1.ediv g0).mono (by decide),qb.2.mono (by decide)⟩,?_⟩
  exact ⟨rfl,_,by rw [qlT hq]; rfl⟩
 ·rintro σ H2 ⟨rfl,o,rfl⟩
  rw [xl,List.take_length]
  obtain ⟨b0,b1⟩:=qgq S0 bS hdS qs.length
  rw [List.take_length] at b0 b1
  refine ⟨_,rfl,l,rfl,⟨_,SqL.of hl⟩,qer (xs:=xs) (fs:=[some (.int (lqF qs 1))]) (fun acc i ys H'=>Same H2 H'/\ys=iv (tpF (lqF qs 1) (qs.take i))) (by omega) ?_ ?_ ?_ ?_⟩
  ·intro acc hacc
   exact ⟨sN hacc _,rfl⟩
  ·rintro acc i ys H' hacc ⟨s',_⟩
   exact s' _ _ hl
  ·rintro acc i ys H' x hacc hx hlen ⟨s',rfl⟩ hacc' Q' hQ
   obtain ⟨q,hq,⟨a,rfl,ha⟩⟩:=shs.at hx
   have qb:=bq q (List.mem_of_getElem? hq)
   have d0:(0:Int) < (q.den:Int):=by have:=q.den_pos; omega
   refine ⟨_,rfl,a,_,_,_,rfl,rfl,s' _ _ ha,rfl,_,rfl,_,rfl,a,_,_,_,rfl,rfl,s' _ _ ha,rfl,_,_,rfl,rfl,⟨d0,qb.2.mono (by decide)⟩,_,_,rfl,rfl,⟨qb.1.mono (by decide),(b1.ediv d0).mono (by decide)⟩,hQ _ H' hacc' ⟨qao hacc s' _,?_⟩⟩
   unfold tpF
   rw [List.take_add_one,hq,List.map_append]
   simp
  ·rintro acc ys H' hacc ⟨s',rfl⟩ hacc' hlen
   rw [xl,List.take_length] at hacc'
   refine ⟨_,rfl,lz 2 rfl,fun t ht=>?_⟩
   have st:=sN ht (.tup [.ref acc,.int (lqF qs 1)])
   exact k t acc _ (s'.trans st) uS (st _ _ hacc')
def qca:Sp:=fun vs H Q _=>∃ (t:Int) (l:Addr) (bs:List Int),vs=[.int t,.ref l]/\H l=some (.lst (bs.map V.int))/\(∀ b∈bs,0 < b/\Bt 8000 b/\(b < 500000000\/bs.length=1))/\∀ v H',Same H H'->PrAt H' v (qat t bs)->Q v H'
theorem qcF {t:Int}{bs:List Int}{i:Nat}{b:Int}(h:bs[i]?=some b):qat t (bs.take (i + 1))=((qat t (bs.take i)).1 / gI (qat t (bs.take i)).1 b,(qat t (bs.take i)).2 * (b / gI (qat t (bs.take i)).1 b)):=by
 unfold qat
 rw [List.take_add_one,h,List.foldl_append]
 rfl
theorem qif (C_measure:Cal P w K mg base "measure" ["a", "b"] 1 qcb)(F:FunAt K mg "parted" ["top", "bottoms"] s_parted):Cal P w K mg base "parted" ["top", "bottoms"] 2 qca:=by
 have S:=qeD
 refine F.cal qeD (fun vs H Q E h=>?_) (fun f cdv A outer s H vs Q E hr h=>?_)
 ·obtain ⟨t,l,bs,rfl,_⟩:=h; rfl
 obtain ⟨t,l,bs,rfl,hl,hb,k⟩:=h
 refine ⟨_,(@pK _ _ _ _ _ (@pZ _ _ (2) _ _ _ _ (by exact S.nd) ⋯ ⋯ pI ⋯ ⋯) (@pK _ _ _ _ _ (@qbj _ _ _ _ _ _ _ _ (by exact PassesOwn.never) ⋯ (@qaS _ _ _ _ (pv 1)) (@pG _ _ (3) _ (by exact S.nd) ⋯ ⋯ ⋯) (@pK _ _ _ _ _ (@pZ _ _ (4) _ _ _ _ (by exact S.nd) ⋯ ⋯ (@cc _ _ _ _ _ _ _ _ _ _ (by exact C_measure) (by exact (hr.mono (by decide))) (@pC _ _ _ _ _ (pv 0) (@pC _ _ _ _ _ (pv 3) pN ⋯) ⋯) ⋯ ⋯ ⋯ ⋯) ⋯ ⋯) (@pK _ _ _ _ _ (@pZ _ _ (0) _ _ _ _ (by exact S.nd) ⋯ ⋯ (@pP _ _ _ _ _ _ _ _ qbU (pv 0) (pv 4)) ⋯ ⋯) (@pO _ _ _ (@pZ _ _ (2) _ _ _ _ (by exact S.nd) ⋯ ⋯ (@pP _ _ _ _ _ _ _ _ qbf (pv 2) (@pP _ _ _ _ _ _ _ _ qbU (pv 3) (pv 4))) ⋯ ⋯)))) ⋯) (@pO _ _ _ (@qan _ _ _ _ (@qaN _ _ _ _ _ (@pC _ _ _ _ _ (pv 0) (@pC _ _ _ _ _ (pv 2) pN ⋯) ⋯)))))),?_⟩
 refine ⟨_,rfl,l,rfl,⟨_,SqL.of hl⟩,qcT (xs:=bs.map V.int) (fun i σ H'=>H'=H/\∃ o1 o2,σ=[some (.int (qat t (bs.take i)).1),some (.ref l),some (.int (qat t (bs.take i)).2),o1,o2]) ⟨rfl,_,_,rfl⟩ (fun i σ H2 _ ⟨e,_⟩=>by rw [e]; exact SqL.of hl) ?_ ?_⟩
 ·rintro i y σ H' hi ⟨rfl,o1,o2,rfl⟩
  rw [List.getElem?_map] at hi
  cases hbi:bs[i]? with
  | none=>rw [hbi] at hi; cases hi
  | some b =>
   rw [hbi] at hi
   cases hi
   obtain ⟨b0,bb,b1⟩:=hb b (List.mem_of_getElem? hbi)
   have g0:=qay (a:=(qat t (bs.take i)).1) (b:=b) (by omega)
   have gb:Bt 8000 (gI (qat t (bs.take i)).1 b):=bb.gr (by omega)
   have q0:0≤b / gI (qat t (bs.take i)).1 b:=Int.ediv_nonneg (by omega) (by omega)
   have q1:b / gI (qat t (bs.take i)).1 b≤b:=Int.ediv_le_self _ (by omega)
   have cm:CMul (qat t (bs.take i)).2 (b / gI (qat t (bs.take i)).1 b):=by
    rcases b1 with z | z
    ·exact .inr ⟨by omega,by omega⟩
    ·have:i=0:=by have:=(List.getElem?_eq_some_iff.mp hbi).1; omega
     subst this
     exact .inl (by show _ < (1:Int)/\(1:Int) < _; decide)
   refine ⟨_,rfl,_,rfl,_,_,rfl,?_⟩
   refine ⟨_,rfl,_,rfl,_,_,rfl,rfl,⟨g0,gb⟩,?_⟩
   refine ⟨_,rfl,_,rfl,_,rfl,_,_,rfl,rfl,⟨g0,gb⟩,_,_,rfl,rfl,cm,rfl,some (.int b),some (.int (gI (qat t (bs.take i)).1 b)),?_⟩
   rw [qcF hbi]
   rfl
 ·rintro σ H' ⟨rfl,o1,o2,rfl⟩
  rw [List.length_map,List.take_length]
  exact ⟨_,rfl,_,rfl,lz 2 rfl,fun p hp=>k _ _ (sN hp _) ⟨p,rfl,uS⟩⟩
end
def RwI (H:Hp)(v:V)(r:List Int × Int):Prop:=∃ a b,v = .ref a/\H a=some (.tup [.ref b,.int r.2])/\H b=some (.tup (iv r.1))
abbrev qkA (H:Hp)(xs:List V)(rows:Mp):Prop:=Paired (RwI H) xs rows
theorem RwI.imp {H H':Hp}{v:V}{r:List Int × Int}(k:∀ b xs,H b=some (.tup xs)->H' b=some (.tup xs))(h:RwI H v r):RwI H' v r:=let ⟨a,b,e,h1,h2⟩:=h; ⟨a,b,e,k _ _ h1,k _ _ h2⟩
theorem qhx {H:Hp}{d:Addr}{o:HO}(hd:H d=none):∀ b xs,H b=some (.tup xs)->upd H d o b=some (.tup xs):=fun b xs e=>by rw [uE (qae e hd)]; exact e
theorem qkY (k:List Int):iv k=(k.map (Sum.inl:Int->Key)).map kV:=by rw [List.map_map]; rfl
theorem qiI {rows:Mp}{i:Nat}{r:List Int × Int}(h:rows[i]?=some r):gath (rows.take (i + 1))=putM (gath (rows.take i)) r.1 (getM (gath (rows.take i)) r.1 + r.2):=by
 rw [List.take_add_one,h]
 show gath (rows.take i ++ [r])=_
 rw [qe0]; rfl
theorem qkm (rows:Mp):(gath rows).length≤rows.length:=by
 have:∀ (rows m:Mp),(rows.foldl addM m).length≤m.length + rows.length:=by
  intro rows
  induction rows with
  | nil=>intro m; simp
  | cons r rows ih =>
   intro m
   rw [List.foldl_cons]
   have h1:=ih (addM m r)
   have h2:(addM m r).length≤m.length + 1:=by
    unfold addM putM
    split
    ·simp
    ·simp
   rw [List.length_cons]; omega
 have:=this rows []
 simpa [gath] using this
section
variable {P:Program}{w:World}{K:PySem.W.Frag}{mg:Str->Option Value}{base:Heap}
def qdE:Sp:=fun vs H Q _=>∃ (l:Addr) (xs:List V) (rows:Mp),vs=[.ref l]/\H l=some (.lst xs)/\qkA H xs rows/\rows.length≤100000/\∀ (d:Addr) (H':Hp),Same H H'->H d=none->H' d=some (dI (gath rows))->Q (.ref d) H'
theorem qfE (F:FunAt K mg "gathered" ["rows"] s_gathered):Cal P w K mg base "gathered" ["rows"] 1 qdE:=by
 have S:=qda
 refine F.cal qda (fun vs H Q E h=>?_) (fun f cdv A outer s H vs Q E hr h=>?_)
 ·obtain ⟨l,xs,rows,rfl,_⟩:=h; rfl
 obtain ⟨l,xs,rows,rfl,hl,hr',hz,k⟩:=h
 have hu1:=ql1 hr
 have xl:=Paired.length hr'
 refine ⟨_,(@pK _ _ _ _ _ (@pZ _ _ (1) _ _ _ _ (by exact S.nd) ⋯ ⋯ qjP ⋯ ⋯) (@pK _ _ _ _ _ (@qbj _ _ _ _ _ _ _ _ (by exact PassesOwn.never) ⋯ (@qaS _ _ _ _ (pv 0)) (@qbs _ _ _ _ _ _ ⋯ (@qab _ _ _ _ _ (@pG _ _ (2) _ (by exact S.nd) ⋯ ⋯ ⋯) (@qab _ _ _ _ _ (@pG _ _ (3) _ (by exact S.nd) ⋯ ⋯ ⋯) qas ⋯) ⋯) ⋯ ⋯) (@pO _ _ _ (@qlo _ _ _ _ _ _ _ _ _ (by exact hu1) (pv 1) (pv 2) (@pP _ _ _ _ _ _ _ _ qaF (@qjQ _ _ _ _ _ _ _ _ _ (by exact hu1) (pv 1) (pv 2) pI (by exact ⟨rfl,rfl,rfl,rfl⟩)) (pv 3)) ⋯)) ⋯) (@pO _ _ _ (@qan _ _ _ _ (pv 1))))),?_⟩
 intro d hd
 refine ⟨_,rfl,l,rfl,⟨_,SqL.of (by rw [uE (qae hl hd)]; exact hl)⟩,qcT (xs:=xs) (fun i σ H'=>H'=upd H d (dI (gath (rows.take i)))/\∃ o1 o2,σ=[some (.ref l),some (.ref d),o1,o2]) ⟨rfl,_,_,rfl⟩ ?_ ?_ ?_⟩
 ·rintro i σ H' _ ⟨rfl,_⟩
  exact SqL.of (by rw [uE (qae hl hd)]; exact hl)
 ·rintro i x σ H' hxi ⟨rfl,o1,o2,rfl⟩
  obtain ⟨r,hri,a,b,rfl,ha,hb⟩:=qaz hr' hxi
  have ha':=qhx (o:=dI (gath (rows.take i))) hd _ _ ha
  have hb':=qhx (o:=dI (gath (rows.take i))) hd _ _ hb
  rw [qkY] at hb'
  refine ⟨a,_,rfl,SqT.of ha',rfl,_,_,rfl,_,_,rfl,rfl,?_⟩
  refine ⟨_,rfl,d,rfl,.inr ⟨_,.inl uS⟩,_,rfl,_,DGet.t uS hb',?_⟩
  rw [qhr]
  refine ⟨_,rfl,_,_,rfl,rfl,_,rfl,_,rfl,d,_,rfl,DPut.t uS hb' ?_,?_⟩
  ·rw [List.length_map]
   have:=qkm (rows.take i)
   rw [List.length_take] at this
   rw [sizeLine_eq]; omega
  ·rw [qhZ,qfj]
   exact ⟨by rw [qiI hri]; rfl,_,_,rfl⟩
 ·rintro σ H' ⟨rfl,o1,o2,rfl⟩
  rw [xl,List.take_length]
  exact ⟨_,rfl,k d _ (sN hd _) hd uS⟩
end
def fI (p:List Int × Int):List Int × V:=(p.1,.int p.2)
theorem qm5 (m:Mp):HO.dT ((m.map fI).map kI)=dI m:=by unfold dI; rw [List.map_map]; rfl
theorem qfr {m:Mp}(nd:(qaf m).Nodup){rs:List (List Int × V)}(h:rs.Perm (m.map fI))(hr:qdr (rs.map (·.1))):rs=(rise (qaf m)).map fun k=>(k,V.int (getM m k)):=by
 have e1:rs.map (·.1)=rise (qaf m):=by
  refine qli ?_ hr
  have:=h.map (·.1)
  rwa [List.map_map] at this
 rw [<- e1,List.map_map]
 conv=>lhs; rw [<- List.map_id rs]
 refine List.map_congr_left fun r hr'=>?_
 obtain ⟨p,hp,rfl⟩:=List.mem_map.mp (h.mem_iff.mp hr')
 show fI p=(p.1,V.int (getM m p.1))
 rw [qcS nd hp]; rfl
theorem tupL {H:Hp}{p:Addr}{ys:List V}{o:HO}(h:H p=some (.lst ys)):∀ b xs,H b=some (.tup xs)->upd H p o b=some (.tup xs):=fun b xs e=>by rw [uE (qdt e h (by intro z; cases z))]; exact e
theorem tT_ {σ:St}{H:Hp}{Q:Bool->Hp->Prop}(h:Q true H):tTT σ H Q:=h
theorem none_of {H H':Hp}{p:Addr}(s:Same H H')(h:H' p=none):H p=none:=by
 cases e:H p with
 | none=>rfl
 | some o=>rw [s _ _ e] at h; cases h
theorem qb2 {α β:Type}{F:α->β->Prop}{xs:List α}{ys:List β}{x:α}{y:β}(h:Paired F xs ys)(r:F x y):Paired F (xs ++ [x]) (ys ++ [y]):=Paired.snoc h r
theorem take_snoc {α:Type}{l:List α}{i:Nat}{x:α}(h:l[i]?=some x):l.take (i + 1)=l.take i ++ [x]:=by rw [List.take_add_one,h]; rfl
section
variable {P:Program}{w:World}{K:PySem.W.Frag}{mg:Str->Option Value}{base:Heap}
def qdC:Sp:=fun vs H Q _=>∃ (d lb:Addr) (m:Mp) (bs:List Int),vs=[.ref d,.ref lb]/\H d=some (dI m)/\H lb=some (.lst (iv bs))/\(qaf m).Nodup/\m.length < 65536/\(∀ b∈bs,0 < b/\Bt 8000 b/\(b < 500000000\/bs.length=1))/\∀ (l:Addr) (H':Hp),Same H H'->H l=none->SpAt H' l (sprF m bs.prod)->Q (.ref l) H'
theorem qfD (T:Txt2 mg)(C_parted:Cal P w K mg base "parted" ["top", "bottoms"] 2 qca)(F:FunAt K mg "spread_of" ["weights", "bottoms"] s_spread_of):Cal P w K mg base "spread_of" ["weights", "bottoms"] 3 qdC:=by
 have S:=qcC
 refine F.cal qcC (fun vs H Q E h=>?_) (fun f cdv A outer s H vs Q E hr h=>?_)
 ·obtain ⟨d,lb,m,bs,rfl,_⟩:=h; rfl
 obtain ⟨d,lb,m,bs,rfl,hd,hb,nd,few,hbs,k⟩:=h
 have hu2:=qk2 hr
 refine ⟨_,(@pO _ _ _ (@qan _ _ _ _ (@qaE _ _ _ _ _ _ _ _ _ _ _ _ _ ⋯ (by exact (fun _ _ h=>h)) (by decide +kernel) ⋯ (by decide +kernel) (by exact qaJ rfl) (by exact Sees.frees ["load", "weight"] [("bottoms",1)] (qal ⟨rfl,rfl⟩ qaK)) (@qaS _ _ _ _ (@qag _ _ _ _ _ _ _ _ _ (qe6 ⋯ hu2) ⋯ (by exact T.z_sorted) (by exact qco) (@pC _ _ _ _ _ (@qjO _ _ _ _ _ (pv 0) ⋯ ⋯) pN ⋯) ⋯ ⋯ ⋯ ⋯)) (fun _ _ _ _ _ => @qaY _ _ _ _ _ (2) ⋯ (@qab _ _ _ _ _ (@pG _ _ (0) _ (by exact (show (["load", "weight", "bottoms"]:List Str).Nodup by decide +kernel)) ⋯ ⋯ ⋯) (@qab _ _ _ _ _ (@pG _ _ (1) _ (by exact (show (["load", "weight", "bottoms"]:List Str).Nodup by decide +kernel)) ⋯ ⋯ ⋯) qas ⋯) ⋯) ⋯ ⋯) (fun _ _ _ _ _=>qaG) (fun _ _ _ _ _=>(@qaN _ _ _ _ _ (@pC _ _ _ _ _ (pv 0) (@pC _ _ _ _ _ (@cc _ _ _ _ _ _ _ _ _ _ (by exact C_parted) (by exact (hr.mono (by decide))) (@pC _ _ _ _ _ (pv 1) (@pC _ _ _ _ _ (pv 2) pN ⋯) ⋯) ⋯ ⋯ ⋯ ⋯) pN ⋯) ⋯))) ⋯))),?_⟩
 refine ⟨_,rfl,d,_,rfl,.inl hd,fun v hv=>?_⟩
 have s1:=sN hv (itV v d)
 refine ⟨v,d,m.map fI,rfl,uS,.inl (by rw [qm5]; exact s1 _ _ hd),by simpa using few,fun H2 q as rs s2 hq pm ri pr=>?_⟩
 have e:=qfr nd pm ri
 subst e
 have s3:=sN hq (.lst (as.map V.ref))
 have sA:=s1.trans (s2.trans s3)
 have al:as.length=(rise (qaf m)).length:=by have:=Paired.length pr; simpa using this
 have kl:(rise (qaf m)).length=m.length:=by rw [(qaX _).length_eq]; simp [qaf]
 refine ⟨q,rfl,⟨_,SqL.of uS⟩,qb0 (qaU (xs:=as.map V.ref)) (fun p i ys σ' H'=>Same (upd H2 q (.lst (as.map V.ref))) H'/\(∃ o1 o2,σ'=[o1,o2,some (.ref lb)])/\ys.length=i/\Paired (RwAt H') ys ((sprF m bs.prod).take i)) (by simp; omega) ?_ ?_ ?_ ?_⟩
 ·intro p hp
  exact ⟨sN hp _,⟨_,_,rfl⟩,rfl,.nil⟩
 ·rintro p i ys σ' H' hp ⟨s',_⟩
  exact s' _ _ uS
 ·rintro p i ys σ' H' x H'' hp hi hl ⟨s',⟨o1,o2,rfl⟩,yl,pr'⟩ hp' ⟨rfl,hx⟩ Q1 Q2 h1 h2
  rw [List.getElem?_map,Option.map_eq_some_iff] at hx
  obtain ⟨a,ha,rfl⟩:=hx
  obtain ⟨r,hri,b,hb1,hb2,hb3⟩:=qaz pr ha
  rw [List.getElem?_map,Option.map_eq_some_iff] at hri
  obtain ⟨kk,hk1,rfl⟩:=hri
  have ha':=(s3.trans s') _ _ hb3
  have hb':=(s2.trans (s3.trans s')) _ _ hb1
  refine ⟨a,_,rfl,ha',rfl,_,_,rfl,_,_,rfl,rfl,?_⟩
  refine tT_ (iteT ?_)
  refine ⟨_,rfl,_,rfl,_,rfl,_,lb,bs,rfl,(sA.trans s') _ _ hb,hbs,fun v2 H5 s5 pa=>?_⟩
  rw [qeg _ bs rfl fun b hb=>(hbs b hb).1] at pa
  refine ⟨lz 2 rfl,fun t ht=>h1 _ _ _ ?_ ?_⟩
  ·exact sN ht _ _ _ (s5 _ _ hp')
  ·have s6:=sN ht (.tup [.ref b,v2])
   have hp6:=s6 _ _ (s5 _ _ hp')
   refine ⟨qao hp (s'.trans (s5.trans s6)) _,⟨_,_,rfl⟩,by simp [yl],?_⟩
   have hs:(sprF m bs.prod)[i]?=some (kk,Rat.divInt (getM m kk) bs.prod):=by unfold sprF; rw [List.getElem?_map,hk1]; rfl
   rw [take_snoc hs]
   refine qb2 (Paired.mapP pr' fun _ _ z=>z.imp fun b xs e=>tupL hp6 _ _ ((s5.trans s6) _ _ e)) ⟨t,b,v2,rfl,tupL hp6 _ _ uS,tupL hp6 _ _ ((s5.trans s6) _ _ hb'),?_⟩
   obtain ⟨c,e2,h3⟩:=pa
   exact ⟨c,e2,tupL hp6 _ _ (s6 _ _ h3)⟩
 ·rintro p ys σ' H' hp ⟨s',_,yl,pr'⟩ hp' hl
  refine k p H' (sA.trans s') ?_ ⟨ys,hp',?_⟩
  ·exact none_of sA hp
  ·rw [List.length_map,al] at pr'
   have:(sprF m bs.prod).length=(rise (qaf m)).length:=by simp [sprF]
   rw [<- this,List.take_length] at pr'
   exact pr'
end
def wtF (B:Int)(rs:Spd):Mp:=rs.map fun r=>(r.1,r.2.num * (B / (r.2.den:Int)))
theorem qfg (B:Int)(rs:Spd):qaf (wtF B rs)=rs.map (·.1):=by unfold qaf wtF; rw [List.map_map]; rfl
theorem qln {m:Mp}{k:List Int}{v:Int}(h:k ∉ qaf m):putM m k v=m ++ [(k,v)]:=by
 unfold putM; rw [if_neg fun z=>h (qbV.mp z)]
section
variable {P:Program}{w:World}{K:PySem.W.Frag}{mg:Str->Option Value}{base:Heap}
def qc2:Sp:=fun vs H Q _=>∃ (l:Addr) (rs:Spd),vs=[.ref l]/\SpAt H l rs/\(rs.map (·.1)).Nodup/\(∀ r∈rs,SB 3000 r.2)/\(∃ S:Int,0 < S/\Bt 3000 S/\∀ r∈rs,(r.2.den:Int) ∣ S)/\rs.length≤60000 /\
 ∀ (t d:Addr) (H':Hp),Same H H'->H' t=some (.tup [.ref d,.int (lqF (rs.map (·.2)) 1)])->H d=none->H' d=some (dI (wtF (lqF (rs.map (·.2)) 1) rs))->Q (.ref t) H'
theorem qeM (T:Txt2 mg)(C_weighed:Cal P w K mg base "weighed" ["some"] 2 qcN)(F:FunAt K mg "weights_of" ["spread"] s_weights_of):Cal P w K mg base "weights_of" ["spread"] 3 qc2:=by
 have S:=qcc
 refine F.cal qcc (fun vs H Q E h=>?_) (fun f cdv A outer s H vs Q E hr h=>?_)
 ·obtain ⟨l,rs,rfl,_⟩:=h; rfl
 obtain ⟨l,rs,rfl,⟨xs,hl,rws⟩,nd,sb,⟨Sb,S0,bS,hdS⟩,hz,k⟩:=h
 have hu1:=ql1 hr
 have xl:=Paired.length rws
 refine ⟨_,(@pK _ _ _ _ _ (@qbH _ _ _ _ _ _ (@cc _ _ _ _ _ _ _ _ _ _ (by exact C_weighed) (by exact (hr.mono (by decide))) (@pC _ _ _ _ _ (@qaE _ _ _ _ _ _ _ _ _ _ _ _ _ ⋯ (by exact (fun _ _ h=>h)) (by decide +kernel) ⋯ (by decide +kernel) (by exact qaJ rfl) (by exact Sees.frees ["load", "part"] [] qaK) (@qaS _ _ _ _ (pv 0)) (fun _ _ _ _ _ => @qaY _ _ _ _ _ (2) ⋯ (@qab _ _ _ _ _ (@pG _ _ (0) _ (by exact (show (["load", "part"]:List Str).Nodup by decide +kernel)) ⋯ ⋯ ⋯) (@qab _ _ _ _ _ (@pG _ _ (1) _ (by exact (show (["load", "part"]:List Str).Nodup by decide +kernel)) ⋯ ⋯ ⋯) qas ⋯) ⋯) ⋯ ⋯) (fun _ _ _ _ _=>qaG) (fun _ _ _ _ _=>(pv 1)) ⋯) pN ⋯) ⋯ ⋯ ⋯ ⋯) (@qbs _ _ _ _ _ _ ⋯ (@qab _ _ _ _ _ (@pG _ _ (1) _ (by exact S.nd) ⋯ ⋯ ⋯) (@qab _ _ _ _ _ (@pG _ _ (2) _ (by exact S.nd) ⋯ ⋯ ⋯) qas ⋯) ⋯) ⋯ ⋯) ⋯ ⋯ ⋯) (@pO _ _ _ (@qan _ _ _ _ (@qaN _ _ _ _ _ (@pC _ _ _ _ _ (@qh6 _ _ _ _ _ _ _ _ _ _ _ _ _ _ _ (by exact hu1) ⋯ (by exact (fun _ _ h=>h)) (by decide +kernel) ⋯ (by decide +kernel) (by exact qaJ rfl) (by exact Sees.frees ["top", "load", "part"] [] qaK) (@qh4 _ _ _ _ _ _ _ _ _ ⋯ (by exact T.z_zip) (@pC _ _ _ _ _ (pv 0) (@pC _ _ _ _ _ (pv 1) pN ⋯) ⋯) ⋯ ⋯) (fun _ _ _ _ _=>(@qaY _ _ _ _ _ (2) ⋯ (@qab _ _ _ _ _ (@qaY _ _ _ _ _ (2) ⋯ (@qab _ _ _ _ _ (@pG _ _ (1) _ (by exact (show (["top", "load", "part"]:List Str).Nodup by decide +kernel)) ⋯ ⋯ ⋯) (@qab _ _ _ _ _ (@pG _ _ (2) _ (by exact (show (["top", "load", "part"]:List Str).Nodup by decide +kernel)) ⋯ ⋯ ⋯) qas ⋯) ⋯) ⋯ ⋯) (@qab _ _ _ _ _ (@pG _ _ (0) _ (by exact (show (["top", "load", "part"]:List Str).Nodup by decide +kernel)) ⋯ ⋯ ⋯) qas ⋯) ⋯) ⋯ ⋯)) (fun _ _ _ _ _=>qaG) (fun _ _ _ _ _=>(pv 1)) (fun _ _ _ _ _=>(pv 0)) ⋯) (@pC _ _ _ _ _ (pv 2) pN ⋯) ⋯))))),?_⟩
 refine ⟨_,rfl,l,rfl,⟨_,SqL.of hl⟩,qb0 (qaU (xs:=xs)) (fun p i ys σ' H'=>Same H H'/\(∃ o1 o2,σ'=[o1,o2])/\ys.length=i/\Shs H' ys ((rs.take i).map (·.2))) (by omega) ?_ ?_ ?_ ?_⟩
 ·intro p hp
  exact ⟨sN hp _,⟨_,_,rfl⟩,rfl,.nil⟩
 ·rintro p i ys σ' H' hp ⟨s',_⟩
  exact s' _ _ hl
 ·rintro p i ys σ' H' x H'' hp hi hl' ⟨s',⟨o1,o2,rfl⟩,yl,sh⟩ hp' ⟨rfl,hx⟩ Q1 Q2 h1 h2
  obtain ⟨r,hri,a,b,v2,rfl,ha,hb,hv⟩:=qaz rws hx
  refine ⟨a,_,rfl,s' _ _ ha,rfl,_,_,rfl,_,_,rfl,rfl,?_⟩
  refine tT_ (iteT ⟨_,rfl,h1 _ _ _ hp' ⟨qao hp s' _,⟨_,_,rfl⟩,by simp [yl],?_⟩⟩)
  rw [take_snoc hri,List.map_append]
  exact Shs.snoc (qeB hp' (hv.same s')) (Shs.updL hp' sh)
 ·rintro p ys σ' H' hp ⟨s',_,yl,sh⟩ hp' hl'
  rw [xl,List.take_length] at sh
  refine ⟨p,ys,rs.map (·.2),rfl,hp',sh,fun q hq=>?_,⟨Sb,S0,bS,fun q hq=>?_⟩,by simp; omega,fun t c H2 s2 ht hc=>?_⟩
  ·obtain ⟨r,hr',rfl⟩:=List.mem_map.mp hq
   exact sb r hr'
  ·obtain ⟨r,hr',rfl⟩:=List.mem_map.mp hq
   exact hdS r hr'
  refine ⟨t,_,rfl,SqT.of ht,rfl,_,_,rfl,_,_,rfl,rfl,?_⟩
  have sA:=s'.trans s2
  have tl:(iv (tpF (lqF (rs.map (·.2)) 1) (rs.map (·.2)))).length=xs.length:=by simp [tpF,xl]
  generalize hB:lqF (rs.map (·.2)) 1=B at *
  refine ⟨_,rfl,_,rfl,l,c,rfl,⟨_,SqL.of (sA _ _ hl)⟩,⟨_,SqL.of hc⟩,fun d hd=>qel (qdw (xs:=xs) (ys:=iv (tpF B (rs.map (·.2)))) tl.symm) (fun i σ' H'=>Same H2 H'/\(∃ o1 o2 o3,σ'=[o1,o2,o3])/\H' d=some (dI (wtF B (rs.take i)))) ?_ ?_ ?_ ?_⟩
  ·exact ⟨sN hd _,⟨_,_,_,rfl⟩,uS⟩
  ·rintro i σ' H' ⟨s3,_⟩
   exact ⟨(sA.trans s3) _ _ hl,s3 _ _ hc⟩
  ·rintro i x σ' H3 H4 hi ⟨s3,⟨o1,o2,o3,rfl⟩,hd3⟩ ⟨q,y,z,rfl,hq,rfl,hy,hz'⟩ R hR
   obtain ⟨r,hri,a,b,v2,rfl,ha,hb,hv⟩:=qaz rws hy
   have s4:=sN hq (.tup [.ref a,z])
   have sB:=sA.trans (s3.trans s4)
   have ez:z = .int (r.2.num * (B / (r.2.den:Int))):=by
    have:(iv (tpF B (rs.map (·.2))))[i]?=some (.int (r.2.num * (B / (r.2.den:Int)))):=by simp [tpF,hri]
    rw [this] at hz'; exact (Option.some.inj hz').symm
   subst ez
   refine ⟨q,_,rfl,uS,rfl,_,_,rfl,a,_,rfl,sB _ _ ha,rfl,_,_,rfl,_,_,rfl,rfl,_,_,rfl,rfl,?_⟩
   have hb4:=sB _ _ hb
   rw [qkY] at hb4
   refine tT_ (iteT ⟨_,rfl,_,rfl,b,_,_,rfl,hb4,s4 _ _ hd3,?_,hR _ _ ⟨qao hd (s3.trans s4) _,⟨_,_,_,rfl⟩,?_⟩⟩)
   ·simp [wtF]; omega
   ·rw [uS,qhZ]
    congr 2
    rw [qln]
    ·rw [take_snoc hri]; simp [wtF]
    ·rw [qfg]
     intro zz
     have:=List.nodup_append.mp (show ((rs.take i).map (·.1) ++ [r.1]).Nodup from by
      have e:(rs.take (i + 1)).map (·.1)=(rs.take i).map (·.1) ++ [r.1]:=by rw [take_snoc hri,List.map_append]; rfl
      rw [<- e,List.map_take]
      exact nd.sublist (List.take_sublist _ _))
     exact this.2.2 _ zz _ (by simp) rfl
  ·rintro σ' H3 ⟨s3,_,hd3⟩
   rw [xl,List.take_length] at hd3
   refine ⟨_,rfl,lz 2 rfl,fun t' ht'=>?_⟩
   have s5:=sN ht' (.tup [.ref d,.int B])
   exact k t' d _ (sA.trans (s3.trans s5)) uS (none_of sA hd) (s5 _ _ hd3)
end
def SmB (p:Addr)(H H':Hp):Prop:=∀ b u,b≠p->H b=some u->H' b=some u
theorem SmB.refl (p:Addr)(H:Hp):SmB p H H:=fun _ _ _ e=>e
theorem SmB.trans {p:Addr}{H H1 H2:Hp}(a:SmB p H H1)(b:SmB p H1 H2):SmB p H H2:=fun c u n e=>b c u n (a c u n e)
theorem SmB.of {p:Addr}{H H':Hp}(s:Same H H'):SmB p H H':=fun b u _ e=>s b u e
theorem SmB.upd {p:Addr}{H H':Hp}(s:SmB p H H')(o:HO):SmB p H (L2.upd H' p o):=fun b u n e=>by rw [uE n]; exact s b u n e
theorem SmB.tup {p:Addr}{H H':Hp}{ys:List V}(s:SmB p H H')(hp:H p=some (.lst ys)):∀ b xs,H b=some (.tup xs)->H' b=some (.tup xs):=fun b xs e=>s b _ (qdt e hp (by intro z; cases z)) e
def qb4 (c:List Int)(m:Mp):Mp:=gath (qa6 m (qbm c c.length))
theorem qhV {m:Mp}{g:List Int->Mp}{i:Nat}{p:List Int × Int}(h:m[i]?=some p):qa6 (m.take (i + 1)) g=qa6 (m.take i) g ++ (g p.1).map fun q=>(q.1,p.2 * q.2):=by
 rw [take_snoc h]; unfold qa6; rw [List.flatMap_append]; simp
theorem qeo (c:List Int)(n:Nat)(l:List Int):(qbm c n l).length≤n:=by
 induction n with
 | zero=>simp [qbm]
 | succ n ih =>
  rw [qbt,List.length_append]
  split <;> simp <;> omega
theorem qcQ (m:Mp)(g:List Int->Mp)(n:Nat)(h:∀ l,(g l).length≤n):(qa6 m g).length≤m.length * n:=by
 induction m with
 | nil=>simp [qa6]
 | cons p m ih =>
  have e:qa6 (p :: m) g=(g p.1).map (fun q=>(q.1,p.2 * q.2)) ++ qa6 m g:=by unfold qa6; rw [List.flatMap_cons]
  rw [e,List.length_append,List.length_map,List.length_cons,Nat.add_mul]
  have:=h p.1
  omega
section
variable {P:Program}{w:World}{K:PySem.W.Frag}{mg:Str->Option Value}{base:Heap}
def qkM:Sp:=fun vs H Q _=>∃ (lc d:Addr) (c:List Int) (m:Mp),vs=[.ref lc,.ref d]/\H lc=some (.lst (iv c))/\H d=some (dI m)/\m.length≤100/\(∀ k∈qaf m,k.length=c.length)/\c.length≤6/\(∀ x∈c,Bt 8000 x)/\(∀ x∈qau m,Bt 8000 x) /\
 ∀ (e:Addr) (H':Hp),Same H H'->H e=none->H' e=some (dI (qb4 c m))->Q (.ref e) H'
theorem qlL (T:Txt2 mg)(C_put_at:Cal P w K mg base "put_at" ["load", "rank"] 2 qhM)(C_gathered:Cal P w K mg base "gathered" ["rows"] 1 qdE)(F:FunAt K mg "come" ["chances", "weights"] s_come):Cal P w K mg base "come" ["chances", "weights"] 3 qkM:=by
 have S:=qhU
 refine F.cal qhU (fun vs H Q E h=>?_) (fun f cdv A outer s H vs Q E hr h=>?_)
 ·obtain ⟨lc,d,c,m,rfl,_⟩:=h; rfl
 obtain ⟨lc,d,c,m,rfl,hc,hd,hm,hk,hcl,hcb,hmb,k⟩:=h
 refine ⟨_,(@pO _ _ _ (@qan _ _ _ _ (@cc _ _ _ _ _ _ _ _ _ _ (by exact C_gathered) (by exact (hr.mono (by decide))) (@pC _ _ _ _ _ (@qlt _ _ _ (@qjR _ _ _ _ _ _ _ _ _ _ _ _ _ _ _ _ _ _ _ ⋯ (by exact (fun _ _ h=>h)) (by decide +kernel) ⋯ (by decide +kernel) (by exact qaJ rfl) (by exact Sees.frees ["load", "weight", "rank", "chance"] [("chances",0)] (qal ⟨rfl,rfl⟩ qaK)) (@qh5 _ _ _ _ _ _ _ _ (pv 1) ⋯ ⋯) (fun _ _ _ _ _=>(@qaY _ _ _ _ _ (2) ⋯ (@qab _ _ _ _ _ (@pG _ _ (0) _ (by exact (show (["load", "weight", "rank", "chance", "chances"]:List Str).Nodup by decide +kernel)) ⋯ ⋯ ⋯) (@qab _ _ _ _ _ (@pG _ _ (1) _ (by exact (show (["load", "weight", "rank", "chance", "chances"]:List Str).Nodup by decide +kernel)) ⋯ ⋯ ⋯) qas ⋯) ⋯) ⋯ ⋯)) (fun _ _ _ _ _=>qaG) (fun _ _ _ _ _=>(@qjM _ _ _ _ _ _ _ _ ⋯ (by exact T.z_enumerate) (@pC _ _ _ _ _ (pv 4) pN ⋯) ⋯)) (fun _ _ _ _ _=>(@qaY _ _ _ _ _ (2) ⋯ (@qab _ _ _ _ _ (@pG _ _ (2) _ (by exact (show (["load", "weight", "rank", "chance", "chances"]:List Str).Nodup by decide +kernel)) ⋯ ⋯ ⋯) (@qab _ _ _ _ _ (@pG _ _ (3) _ (by exact (show (["load", "weight", "rank", "chance", "chances"]:List Str).Nodup by decide +kernel)) ⋯ ⋯ ⋯) qas ⋯) ⋯) ⋯ ⋯)) (fun _ _ _ _ _=>(@qcq _ _ _ (@qaL _ _ _ _ _ _ _ _ qfB (pv 3) pI (by exact (qaO _))))) (fun _ _ _ _ _=>(@qaN _ _ _ _ _ (@pC _ _ _ _ _ (@cc _ _ _ _ _ _ _ _ _ _ (by exact C_put_at) (by exact (hr.mono (by decide))) (@pC _ _ _ _ _ (pv 0) (@pC _ _ _ _ _ (pv 2) pN ⋯) ⋯) ⋯ ⋯ ⋯ ⋯) (@pC _ _ _ _ _ (@pP _ _ _ _ _ _ _ _ qbx (pv 1) (pv 3)) pN ⋯) ⋯))) ⋯ ⋯)) pN ⋯) ⋯ ⋯ ⋯ ⋯))),?_⟩
 refine ⟨d,_,hd,?_⟩
 refine ⟨_,rfl,d,_,rfl,.inl ⟨hd,fun o=>?_⟩⟩
 intro p hp
 have zz:∀ {b:Addr} {u:HO},H b=some u->b≠d->upd H d (.frz o (dI m)) b=some u:=fun e n=>by rw [uE n]; exact e
 have hcd:lc≠d:=qdt hc hd (by intro z; cases z)
 have hpd:p≠d:=fun z=>by rw [z,uS] at hp; cases hp
 have hpn:H p=none:=by rw [uE hpd] at hp; exact hp
 have dk:dI m = .dT ((m.map fI).map kI):=(qm5 m).symm
 have hlp:lc≠p:=qae hc hpn
 refine qel (qdZ (kws:=m.map fI)) (fun i σ' H'=>Same (upd H d (.frz o (dI m))) H'/\(∃ o1 o2 o3 o4,σ'=[o1,o2,o3,o4,some (.ref lc)])/\∃ ys,H' p=some (.lst ys)/\qkA H' ys (qa6 (m.take i) (qbm c c.length))) ?_ ?_ ?_ ?_
 ·exact ⟨sN hp _,⟨_,_,_,_,rfl⟩,[],uS,.nil⟩
 ·rintro i σ' H' ⟨s',_⟩
  rw [<- dk]
  exact s' _ _ uS
 ·rintro i x σ' H1 H2 hi ⟨s1,⟨o1,o2,o3,o4,rfl⟩,ys,hy,ry⟩ ⟨q,b,kw,rfl,hq,hb,rfl,hkw⟩ R hR
  rw [List.getElem?_map,Option.map_eq_some_iff] at hkw
  obtain ⟨e,he,rfl⟩:=hkw
  have em:e∈m:=List.mem_of_getElem? he
  have s2:=sN hq (.tup [.ref b,(fI e).2])
  refine ⟨q,_,rfl,uS,rfl,_,_,rfl,_,_,rfl,rfl,?_⟩
  refine tT_ (iteT ⟨_,rfl,lc,_,rfl,(s1.trans s2) _ _ (zz hc hcd),?_⟩)
  have hyq:=s2 _ _ hy
  refine qel (qgP (xs:=iv c)) (fun j σ' H'=>SmB p (upd H1 q (.tup [.ref b,(fI e).2])) H'/\(∃ o3 o4,σ'=[some (.ref b),some (.int e.2),o3,o4,some (.ref lc)])/\∃ zs,H' p=some (.lst zs)/\qkA H' zs (qa6 (m.take i) (qbm c c.length) ++ (qbm c j e.1).map fun q=>(q.1,e.2 * q.2))) ?_ ?_ ?_ ?_
  ·refine ⟨.refl _ _,⟨_,_,rfl⟩,ys,hyq,?_⟩
   rw [show qbm c 0 e.1=[] from rfl,List.map_nil,List.append_nil]
   exact Paired.mapP ry fun _ _ z=>z.imp fun b xs e=>s2 _ _ e
  ·rintro j σ' H' ⟨s3,_⟩
   exact s3 _ _ hlp ((s1.trans s2) _ _ (zz hc hcd))
  ·rintro j x σ' H3 H4 hj ⟨s3,⟨o3,o4,rfl⟩,zs,hzs,rz⟩ ⟨t,y,rfl,ht,rfl,hy'⟩ R2 hR2
   have hj':j < c.length:=by simpa using hj
   have ey:y = .int c[j]:=by
    rw [List.getElem?_map,List.getElem?_eq_getElem hj'] at hy'
    exact (Option.some.inj hy').symm
   subst ey
   have s4:=sN ht (.tup [.int (j:Int),.int c[j]])
   refine ⟨t,_,rfl,uS,rfl,_,_,rfl,_,_,rfl,rfl,?_⟩
   have hz4:=s4 _ _ hzs
   have rz4:qkA (upd H3 t (.tup [.int (j:Int),.int c[j]])) zs _:=Paired.mapP rz fun _ _ z=>z.imp fun b xs e=>s4 _ _ e
   have s34:=s3.trans (.of s4)
   refine ⟨_,rfl,_,_,rfl,rfl,_,rfl,?_⟩
   have ec:c.getD j 0=c[j]:=by simp [hj']
   refine ite2 (fun c0=>?_) (fun c0=>?_)
   ·have c0':0 < c[j]:=of_decide_eq_true c0
    have hb4:=s34.tup hyq _ _ (s2 _ _ hb)
    have ek:e.1.length=c.length:=hk _ (List.mem_map_of_mem em)
    have jl:j < e.1.length:=by omega
    have hx:e.1[j]?=some (e.1.getD j 0):=by simp [jl]
    refine ⟨_,rfl,_,rfl,b,e.1,j,_,rfl,hb4,by omega,hx,fun b' ms H5 pm dn hb' s5=>?_⟩
    have em2:=qiO pm dn
    subst em2
    refine ⟨_,rfl,_,rfl,_,_,rfl,rfl,⟨(hmb e.2 (List.mem_map_of_mem em)).mono (by decide),(hcb c[j] (List.getElem_mem hj')).mono (by decide)⟩,lz 2 rfl,fun t' ht'=>?_⟩
    have s6:=sN ht' (.tup [.ref b',.int (e.2 * c[j])])
    have hp6:=(s5.trans s6) _ _ hz4
    refine ⟨zs,?_,hp6,hR2 _ _ ⟨(s34.trans (.of (s5.trans s6))).upd _,⟨_,_,rfl⟩,_,uS,?_⟩⟩
    ·have h1:=Paired.length rz
     have h2:=qcQ (m.take i) (qbm c c.length) c.length fun l=>qeo c c.length l
     have h3:=qeo c j e.1
     rw [List.length_append,List.length_map] at h1
     rw [List.length_take] at h2
     have h4:min i m.length * c.length≤100 * 6:=Nat.mul_le_mul (by omega) hcl
     rw [h1,sizeLine_eq]; omega
    ·rw [qbt,ec,if_pos c0',List.map_append,<- List.append_assoc]
     exact qb2 (Paired.mapP rz4 fun _ _ z=>z.imp fun b xs e=>tupL hp6 _ _ ((s5.trans s6) _ _ e)) ⟨t',b',rfl,tupL hp6 _ _ uS,tupL hp6 _ _ (s6 _ _ hb')⟩
   ·have c0':¬ 0 < c[j]:=by simpa using c0
    refine hR2 _ _ ⟨s34,⟨_,_,rfl⟩,zs,hz4,?_⟩
    rw [qbt,ec,if_neg c0',List.append_nil]
    exact rz4
  ·rintro σ' H3 ⟨s3,⟨o3,o4,rfl⟩,zs,hzs,rz⟩
   refine hR _ _ ⟨fun b u e=>s3 b u (fun z=>by rw [z] at e; rw [show upd H d (.frz o (dI m)) p=none from hp] at e; cases e) ((s1.trans s2) _ _ e),⟨_,_,_,_,rfl⟩,zs,hzs,?_⟩
   rw [qhV he]
   have:(iv c).length=c.length:=by simp
   rw [this] at rz
   exact rz
 ·rintro σ' H1 ⟨s1,⟨o1,o2,o3,o4,rfl⟩,ys,hy,ry⟩
  have hml:(m.map fI).length=m.length:=by simp
  rw [hml,List.take_length] at ry
  refine ⟨o,_,s1 _ _ uS,?_⟩
  have hpd1:upd H1 d (dI m) p=some (.lst ys):=by rw [uE hpd]; exact hy
  have sH:Same H (upd H1 d (dI m)):=fun b u e=>by
   by_cases z:b=d
   ·rw [z,uS]; rw [z,hd] at e; exact e
   ·rw [uE z]; exact s1 _ _ (zz e z)
  refine ⟨p,ys,qa6 m (qbm c c.length),rfl,hpd1,Paired.mapP ry fun _ _ z=>z.imp fun b xs e=>?_,?_,fun e H' s' he hH'=>k e H' (sH.trans s') (none_of sH he) hH'⟩
  ·rw [uE (fun z=>by rw [z,s1 _ _ uS] at e; cases e)]; exact e
  ·have h2:=qcQ m (qbm c c.length) c.length fun l=>qeo c c.length l
   have h4:m.length * c.length≤100 * 6:=Nat.mul_le_mul hm hcl
   omega
end
end My
namespace My
open PySem L2 MA
theorem qkW {n j:Nat}(h:j < n):ixN n (j:Int)=some j:=by
 unfold ixN
 rw [if_pos (by omega),if_pos (by omega)]
 simp
theorem PenY.ls {H:Hp}{p:Addr}{n:Nat}(h:PenY H p n):∃ xs,H p=some (.lst xs):=let ⟨c,ns,a,x,h1,_⟩:=h; ⟨_,h1⟩
theorem PenY.ne {H:Hp}{p q:Addr}{n:Nat}(h:PenY H p n)(hq:H q=none):q≠p:=fun e=>by
 obtain ⟨xs,h1⟩:=h.ls
 rw [e,h1] at hq; cases hq
theorem PenY.keepT {H H':Hp}{p b:Addr}{n:Nat}{xs:List V}(h:PenY H p n)(x:qbh p H H')(hb:H b=some (.tup xs)):H' b=some (.tup xs):=x.all b _ hb (by
 obtain ⟨ys,h1⟩:=h.ls
 rintro rfl
 rw [h1] at hb; cases hb)
theorem qcR {H H2:Hp}{p acc:Addr}{n m:Nat}(hn:H acc=none)(hp:PenY H p n)(x:qbh p H H2)(hp2:PenY H2 p m)(o:HO):PenY (upd H2 acc o) p m/\qbh p H (upd H2 acc o):=by
 obtain ⟨c,ns,a,l,h1,h0,h2,_,_⟩:=hp
 obtain ⟨c',ns',a',l',g1,g0,g2,g3,g4⟩:=hp2
 obtain ⟨a'',l'',e⟩:=x.pen c a l h1
 have hc:c'=c:=by
  rw [g1] at e
  have e':=HO.lst.inj (Option.some.inj e)
  have:=(List.cons.inj e').1
  exact V.ref.inj this
 subst hc
 have n1:p≠acc:=qae h1 hn
 have n2:c'≠acc:=qae h2 hn
 refine ⟨⟨c',ns',a',l',by rw [uE n1]; exact g1,g0,by rw [uE n2]; exact g2,g3,g4⟩,⟨fun b u e hb=>?_,fun d y z e=>?_⟩⟩
 ·rw [uE (qae e hn)]; exact x.all b u e hb
 ·obtain ⟨y',z',e'⟩:=x.pen d y z e
  exact ⟨y',z',by rw [uE n1]; exact e'⟩
theorem qeq {n:Nat}{lo:Int}{te:TE}{H:Hp}{R:Addr->Hp->Prop}{fs:St}(f:Nat->Int × Int)(hn:n≤1000)
  (hte:∀ (i:Nat) (H':Hp) (Q':VK),i < n->Same H H'->(∀ v H'',Same H' H''->PrAt H'' v (f i)->Q' v H'')->te (some (.int (lo + i)) :: fs) H' Q')
  (q:∀ p ys H',Same H H'->H' p=some (.lst ys)->Prs H' ys ((List.range n).map f)->R p H') :
  ∀ p,H p=none->∃ W:Nat->Nat->List V->St->Hp->Prop,(∃ m,W 0 m [] (none :: fs) (upd H p (.lst [])))/\∀ i m ys σ' H',W i m ys σ' H' ->
   ((Itr lo n).stop i H'/\R p H')\/((Itr lo n).go i H'/\∀ x H2,(Itr lo n).yld i H' x H2->qcK 0 x σ' H2 fun σ2 H3=>tTT σ2 H3 fun b H4=>if b=true then te σ2 H4 fun v H5=>ys.length < sizeLine/\H5 p=some (.lst ys)/\(∃ m',m' < m/\W (i + 1) m' (ys ++ [v]) σ2 (upd H5 p (.lst (ys ++ [v]))))
    else ∃ m',m' < m/\W (i + 1) m' ys σ2 H4) :=
 qbD (fun acc i ys H'=>Same H H'/\Prs H' ys ((List.range i).map f)) (by omega) (fun acc hacc=>⟨sN hacc _,.nil⟩)
  (fun acc i ys H' hacc hi hl ⟨s',pr⟩ hacc' Q' hQ=>hte i H' Q' hi s' fun v H'' s'' hv=>hQ v H'' (s'' _ _ hacc') ⟨qao hacc (s'.trans s'') _,by
    rw [List.range_succ,List.map_append]
    exact (Prs.snoc hv (Prs.same s'' pr)).updL (s'' _ _ hacc')⟩)
  (fun acc ys H' hacc ⟨s',pr⟩ hacc' hlen=>q acc ys H' s' hacc' pr)
theorem qku {K:PySem.W.Frag}{a:Addr}{ns:List Int}{te:TE}{H:Hp}{R:Addr->Hp->Prop}{fs:St}(f:Int->Int × Int)(hn:ns.length≤1000)(ha:H a=some (.lst (iv ns)))
  (hte:∀ (x:Int) (H':Hp) (Q':VK),x∈ns->Same H H'->(∀ v H'',Same H' H''->PrAt H'' v (f x)->Q' v H'')->te (some (.int x) :: fs) H' Q')
  (q:∀ p ys H',Same H H'->H' p=some (.lst ys)->Prs H' ys (ns.map f)->R p H') :
  ∀ p,H p=none->∃ W:Nat->Nat->List V->St->Hp->Prop,(∃ m,W 0 m [] (none :: fs) (upd H p (.lst [])))/\∀ i m ys σ' H',W i m ys σ' H' ->
   ((Itl K a).stop i H'/\R p H')\/((Itl K a).go i H'/\∀ x H2,(Itl K a).yld i H' x H2->qcK 0 x σ' H2 fun σ2 H3=>tTT σ2 H3 fun b H4=>if b=true then te σ2 H4 fun v H5=>ys.length < sizeLine/\H5 p=some (.lst ys)/\(∃ m',m' < m/\W (i + 1) m' (ys ++ [v]) σ2 (upd H5 p (.lst (ys ++ [v]))))
    else ∃ m',m' < m/\W (i + 1) m' ys σ2 H4) :=
 qer (xs:=iv ns) (fun acc i ys H'=>Same H H'/\Prs H' ys ((ns.take i).map f)) (by simp; omega) (fun acc hacc=>⟨sN hacc _,.nil⟩) (fun acc i ys H' hacc ⟨s',_⟩=>s' _ _ ha)
  (fun acc i ys H' x hacc hx hl ⟨s',pr⟩ hacc' Q' hQ=>by
    obtain ⟨y,hy,rfl⟩:=iv_at hx
    refine hte y H' Q' (List.mem_of_getElem? hy) s' fun v H'' s'' hv=>hQ v H'' (s'' _ _ hacc') ⟨qao hacc (s'.trans s'') _,?_⟩
    rw [List.take_add_one,hy,List.map_append]
    exact (Prs.snoc hv (Prs.same s'' pr)).updL (s'' _ _ hacc'))
  (fun acc ys H' hacc ⟨s',pr⟩ hacc' hlen=>q acc ys H' s' hacc' (by
    rw [List.length_map,List.take_length] at pr
    exact pr))
theorem tele (g:Nat->Int):∀ n,((List.range n).map fun k=>g (k + 1) - g k).sum=g n - g 0
 | 0=>by simp
 | n + 1=>by rw [List.range_succ,List.map_append,List.sum_append,tele g n]; simp; omega
theorem qhF (a:Int):∀ n:Nat,0≤a->((List.range n).map fun k:Nat=>if (k:Int)=a then (1:Int) else 0).sum=if a < n then 1 else 0
 | 0,h=>by simp; omega
 | n + 1,h=>by
  rw [List.range_succ,List.map_append,List.sum_append,qhF a n h]
  simp only [List.map_cons,List.map_nil,List.sum_cons,List.sum_nil]
  by_cases c:(n:Int)=a
  ·rw [if_pos c,if_neg (by omega),if_pos (by omega)]; rfl
  ·rw [if_neg c]
   by_cases c2:a < n
   ·rw [if_pos c2,if_pos (by omega)]; rfl
   ·rw [if_neg c2,if_neg (by omega)]; rfl
theorem qd6:∀ {ns:List Int},(∀ x∈ns,0≤x)->0≤ns.sum
 | [],_=>by simp
 | x :: ns,h=>by
  have:=qd6 (ns:=ns) fun y hy=>h y (List.mem_cons_of_mem _ hy)
  have:=h x List.mem_cons_self
  simp only [List.sum_cons]
  omega
theorem qiy {v:Int}:∀ {ns:List Int},(∀ x∈ns,0≤x)->v∈ns->v≤ns.sum
 | [],_,h=>by simp at h
 | x :: ns,h,hm=>by
  have n0:=qd6 (ns:=ns) fun z hz=>h z (List.mem_cons_of_mem _ hz)
  have y0:=h x List.mem_cons_self
  simp only [List.sum_cons]
  rcases List.mem_cons.mp hm with rfl | hm
  ·omega
  ·have:=qiy (fun z hz=>h z (List.mem_cons_of_mem _ hz)) hm
   omega
theorem qkI {b:Int}:∀ {ns:List Int},(∀ x∈ns,x≤b)->ns.sum≤b * ns.length
 | [],_=>by simp
 | x :: ns,h=>by
  have:=qkI (ns:=ns) fun y hy=>h y (List.mem_cons_of_mem _ hy)
  have:=h x List.mem_cons_self
  simp only [List.sum_cons,List.length_cons]
  rw [Int.natCast_add,Int.mul_add]
  omega
theorem low1 (a:Int)(h:a=0\/a=1):lowF a 1=(a,1):=by
 rcases h with rfl | rfl <;> decide
structure qfe (ts:List Int)(B:Int):Prop where
 nn:∀ x∈ts,0≤x
 sm:ts.sum=B
 b0:0 < B
 b1:B≤2000
def qkJ:Sp:=fun vs H Q _=>∃ (p:Addr) (n:Int) (m:Nat),vs=[.ref p,.int n]/\PenY H p m/\m < 90000/\1≤n/\n≤12 /\
 ∀ (t:Addr) (xs:List V) (ts:List Int) (B:Int) (H':Hp),H' t=some (.tup xs)->Prs H' xs (ts.map fun x=>lowF x B)->ts.length=n.toNat->qfe ts B->PenY H' p (m + 15)->qbh p H H'->Q (.ref t) H'
section
variable {P:Program}{w:World}{K:PySem.W.Frag}{mg:Str->Option Value}{base:Heap}
def qhN:Sp:=fun vs H Q _=>∃ (a:Int) (k:Nat),vs=[.int a,.int k]/\k≤100/\0≤a/\a < 1000000/\Q (.int (a ^ k)) H
theorem qjY (T:Txt2 mg)(F:FunAt K mg "_law_power" ["_law_number", "_law_many"] s_l_power):Cal P w K mg base "_law_power" ["_law_number", "_law_many"] 1 qhN:=by
 have S:=qdJ
 refine F.cal qdJ (fun vs H Q E h=>?_) (fun f cdv A outer s H vs Q E hr h=>?_)
 ·obtain ⟨a,k,rfl,_⟩:=h; rfl
 obtain ⟨a,n,rfl,hn,a0,a1,k⟩:=h
 refine ⟨_,(@pK _ _ _ _ _ (@pZ _ _ (2) _ _ _ _ (by exact S.nd) ⋯ ⋯ pI ⋯ ⋯) (@pK _ _ _ _ _ (@qbj _ _ _ _ _ _ _ _ (by exact PassesOwn.never) ⋯ (@qaA _ _ _ _ _ _ ⋯ (by exact T.z_range) (@pC _ _ _ _ _ (pv 1) pN ⋯) ⋯) (@pG _ _ (3) _ (by exact S.nd) ⋯ ⋯ ⋯) (@pO _ _ _ (@pZ _ _ (2) _ _ _ _ (by exact S.nd) ⋯ ⋯ (@pP _ _ _ _ _ _ _ _ qbf (pv 2) (pv 0)) ⋯ ⋯)) ⋯) (@pO _ _ _ (@qan _ _ _ _ (pv 2))))),?_⟩
 refine ⟨_,rfl,n,rfl,by omega,by omega,qck (n:=(n:Int).toNat) (fun i σ H'=>H'=H/\∃ o,σ=[some (.int a),some (.int n),some (.int (a ^ i)),o]) ?_ ?_ ?_⟩
 ·exact ⟨rfl,_,by rw [Int.pow_zero]; rfl⟩
 ·rintro i σ H' hi ⟨rfl,o,rfl⟩
  exact ⟨_,rfl,_,rfl,_,_,rfl,rfl,.inr ⟨by omega,by omega⟩,rfl,_,by rw [Int.pow_succ]; rfl⟩
 ·rintro σ H' ⟨rfl,o,rfl⟩
  refine ⟨_,rfl,?_⟩
  rw [Int.toNat_natCast]
  exact k
theorem way3 {d:Int}(h0:3≤d)(h1:d < 6):∃ z:Int,2≤z/\z≤10/\atI ([.int 10,.int 2,.int 4]:List V) (d - 3)=some (.int z):=by
 rcases (show d=3\/d=4\/d=5 by omega) with rfl | rfl | rfl
 ·exact ⟨10,by decide,by decide,rfl⟩
 ·exact ⟨2,by decide,by decide,rfl⟩
 ·exact ⟨4,by decide,by decide,rfl⟩
theorem tstN {a b:Int}(c:¬ decide (V.int a=V.int b)=true):a≠b:=fun e=>c (by rw [e]; simp)
theorem qje {b:Int}(h0:0 < b)(h1:b≤2000):Bt 8000 b:=(show Bt 20 b from Bt.of_lt (by show b.natAbs < 2 ^ 20; have:(2:Nat) ^ 20=1048576:=rfl; omega)).mono (by decide)
theorem qfs {ms ns:List Int}{B:Int}(hp:ms.Perm (0 :: B :: ns))(hs:ms.Pairwise (·≤·))(hB:0≤B)(hn:∀ x∈ns,0≤x/\x≤B):ms.length=ns.length + 2/\ms.getD 0 0=0/\ms.getD (ns.length + 1) 0=B/\(∀ i j,i≤j->j < ms.length->ms.getD i 0≤ms.getD j 0):=by
 have hl:ms.length=ns.length + 2:=by rw [hp.length_eq]; simp
 have mono:∀ i j,i≤j->j < ms.length->ms.getD i 0≤ms.getD j 0:=fun i j hij hj=>by
  rcases Nat.lt_or_eq_of_le hij with h | h
  ·have:=(List.pairwise_iff_getElem.mp hs) i j (by omega) hj h
   rw [qaa (by omega),qaa hj]; exact this
  ·subst h; exact Int.le_refl _
 have all:∀ x∈ms,0≤x/\x≤B:=fun x hx=>by
  have:=hp.mem_iff.mp hx
  simp only [List.mem_cons] at this
  rcases this with rfl | rfl | h
  ·exact ⟨by omega,hB⟩
  ·exact ⟨hB,by omega⟩
  ·exact hn x h
 have m0:(0:Int)∈ms:=hp.mem_iff.mpr (by simp)
 have mB:B∈ms:=hp.mem_iff.mpr (by simp)
 refine ⟨hl,?_,?_,mono⟩
 ·obtain ⟨i,hi,e⟩:=List.mem_iff_getElem.mp m0
  have h1:=mono 0 i (Nat.zero_le _) hi
  have h2:=all _ (List.getElem_mem (show 0 < ms.length by omega))
  rw [qaa hi,e] at h1
  rw [qaa (by omega)] at h1 ⊢
  omega
 ·obtain ⟨i,hi,e⟩:=List.mem_iff_getElem.mp mB
  have h1:=mono i (ns.length + 1) (by omega) (by omega)
  have h2:=all _ (List.getElem_mem (show ns.length + 1 < ms.length by omega))
  rw [qaa hi,e] at h1
  rw [qaa (by omega)] at h1 ⊢
  omega
theorem qlr (i:Nat):∀ m:Nat,(i:Int) ^ m≤((i:Int) + 1) ^ m
 | 0=>by rw [Int.pow_zero,Int.pow_zero]; exact Int.le_refl _
 | m + 1=>by
  rw [Int.pow_succ,Int.pow_succ]
  exact Int.mul_le_mul (qlr i m) (by omega) (by omega) (Int.le_of_lt (Int.pow_pos (by omega)))
theorem qjJ (n m:Nat)(hm:1≤m):(0:Int) :: (List.range n).map (fun k:Nat=>((k:Int) + 1) ^ m)=(List.range (n + 1)).map fun k:Nat=>(k:Int) ^ m:=by
 rw [List.range_succ_eq_map,List.map_cons,List.map_map]
 congr 1
 obtain ⟨m',rfl⟩:∃ m',m=m' + 1:=⟨m - 1,by omega⟩
 rw [Int.pow_succ]; simp
theorem qlI (T:Txt2 mg)(C_l_draw:Cal P w K mg base "_law_draw" ["_law_pen_here", "_law_many"] 1 qd9)(C_l_lowest:Cal P w K mg base "_law_lowest" ["_law_top", "_law_bottom"] 2 qcO)(C_l_power:Cal P w K mg base "_law_power" ["_law_number", "_law_many"] 1 qhN)
  (F:FunAt K mg "_law_rule" ["_law_pen_here", "_law_n"] s_l_rule):Cal P w K mg base "_law_rule" ["_law_pen_here", "_law_n"] 3 qkJ:=by
 have S:=qeE
 refine F.cal qeE (fun vs H Q E h=>?_) (fun f cdv A outer s H vs Q E hr h=>?_)
 ·obtain ⟨p,n,m,rfl,_⟩:=h; rfl
 obtain ⟨p,n,m,rfl,hp,hm,n1,n2,k⟩:=h
 obtain ⟨N,rfl⟩:∃ N:Nat,n=(N:Int):=⟨n.toNat,by omega⟩
 refine ⟨_,(@pK _ _ _ _ _ (@pZ _ _ (2) _ _ _ _ (by exact S.nd) ⋯ ⋯ (@cc _ _ _ _ _ _ _ _ _ _ (by exact C_l_draw) (by exact (hr.mono (by decide))) (@pC _ _ _ _ _ (pv 0) (@pC _ _ _ _ _ pI pN ⋯) ⋯) ⋯ ⋯ ⋯ ⋯) ⋯ ⋯) (@pK _ _ _ _ _ (@qcr _ _ _ _ _ _ _ _ (@qaL _ _ _ _ _ _ _ _ qfC (pv 2) pI (by exact (qaO _))) (@pK _ _ _ _ _ (@pZ _ _ (4) _ _ _ _ (by exact S.nd) ⋯ ⋯ (@cc _ _ _ _ _ _ _ _ _ _ (by exact C_l_draw) (by exact (hr.mono (by decide))) (@pC _ _ _ _ _ (pv 0) (@pC _ _ _ _ _ (pv 1) pN ⋯) ⋯) ⋯ ⋯ ⋯ ⋯) ⋯ ⋯) (@pO _ _ _ (@qan _ _ _ _ (@qaB _ _ _ _ _ _ _ _ _ qaM ⋯ (by exact T.z_tuple) (by exact qbE) (@pC _ _ _ _ _ (@qaE _ _ _ _ _ _ _ _ _ _ _ _ _ ⋯ (by exact (fun _ _ h=>h)) (by decide +kernel) ⋯ (by decide +kernel) (by exact qaJ rfl) (by exact Sees.frees ["_law_k"] [("_law_at",4)] (qal ⟨rfl,rfl⟩ qaK)) (@qaA _ _ _ _ _ _ ⋯ (by exact T.z_range) (@pC _ _ _ _ _ (pv 1) pN ⋯) ⋯) (fun _ _ _ _ _ => @pG _ _ (0) _ (by exact (show (["_law_k", "_law_at"]:List Str).Nodup by decide +kernel)) ⋯ ⋯ ⋯) (fun _ _ _ _ _=>qaG) (fun _ _ _ _ _=>(@qaN _ _ _ _ _ (@pC _ _ _ _ _ (@qaB _ _ _ _ _ _ _ _ _ qdn ⋯ (by exact T.z_int) (by exact qjd) (@pC _ _ _ _ _ (@qct _ _ _ _ _ _ _ _ qfC (pv 0) (pv 1) (by exact (qaO _))) pN ⋯) ⋯ ⋯ ⋯ ⋯) (@pC _ _ _ _ _ pI pN ⋯) ⋯))) ⋯) pN ⋯) ⋯ ⋯ ⋯ ⋯)))) qa8) (@pK _ _ _ _ _ (@qcr _ _ _ _ _ _ _ _ (@qaL _ _ _ _ _ _ _ _ qfC (pv 2) pI (by exact (qaO _))) (@pK _ _ _ _ _ (@pZ _ _ (5) _ _ _ _ (by exact S.nd) ⋯ ⋯ (@pP _ _ _ _ _ _ _ _ qaF pI (@cc _ _ _ _ _ _ _ _ _ _ (by exact C_l_draw) (by exact (hr.mono (by decide))) (@pC _ _ _ _ _ (pv 0) (@pC _ _ _ _ _ (@pP _ _ _ _ _ _ _ _ qch pI (@qaB _ _ _ _ _ _ _ _ _ qdn ⋯ (by exact T.z_int) (by exact qjd) (@pC _ _ _ _ _ (@qct _ _ _ _ _ _ _ _ qfB (pv 1) pI (by exact (qaO _))) pN ⋯) ⋯ ⋯ ⋯ ⋯)) pN ⋯) ⋯) ⋯ ⋯ ⋯ ⋯)) ⋯ ⋯) (@pK _ _ _ _ _ (@pZ _ _ (6) _ _ _ _ (by exact S.nd) ⋯ ⋯ (@pP _ _ _ _ _ _ _ _ qeL (@qbb _ _ _ _ (@pC _ _ _ _ _ pI pN ⋯)) (@qaE _ _ _ _ _ _ _ _ _ _ _ _ _ ⋯ (by exact (fun _ _ h=>h)) (by decide +kernel) ⋯ (by decide +kernel) (by exact qaJ rfl) (by exact Sees.frees ["_law_k"] [("_law_many",5)] (qal ⟨rfl,rfl⟩ qaK)) (@qaA _ _ _ _ _ _ ⋯ (by exact T.z_range) (@pC _ _ _ _ _ (pv 1) pN ⋯) ⋯) (fun _ _ _ _ _ => @pG _ _ (0) _ (by exact (show (["_law_k", "_law_many"]:List Str).Nodup by decide +kernel)) ⋯ ⋯ ⋯) (fun _ _ _ _ _=>qaG) (fun _ _ _ _ _=>(@cc _ _ _ _ _ _ _ _ _ _ (by exact C_l_power) (by exact (hr.mono (by decide))) (@pC _ _ _ _ _ (@pP _ _ _ _ _ _ _ _ qaF (pv 0) pI) (@pC _ _ _ _ _ (pv 1) pN ⋯) ⋯) ⋯ ⋯ ⋯ ⋯)) ⋯)) ⋯ ⋯) (@pO _ _ _ (@qan _ _ _ _ (@qaB _ _ _ _ _ _ _ _ _ qaM ⋯ (by exact T.z_tuple) (by exact qbE) (@pC _ _ _ _ _ (@qaE _ _ _ _ _ _ _ _ _ _ _ _ _ ⋯ (by exact (fun _ _ h=>h)) (by decide +kernel) ⋯ (by decide +kernel) (by exact qaJ rfl) (by exact Sees.frees ["_law_k"] [("_law_tops",6),("_law_n",1),("_law_many",5)] (qal ⟨rfl,rfl⟩ (qal ⟨rfl,rfl⟩ (qal ⟨rfl,rfl⟩ qaK)))) (@qaA _ _ _ _ _ _ ⋯ (by exact T.z_range) (@pC _ _ _ _ _ (pv 1) pN ⋯) ⋯) (fun _ _ _ _ _ => @pG _ _ (0) _ (by exact (show (["_law_k", "_law_tops", "_law_n", "_law_many"]:List Str).Nodup by decide +kernel)) ⋯ ⋯ ⋯) (fun _ _ _ _ _=>qaG) (fun _ _ _ _ _=>(@cc _ _ _ _ _ _ _ _ _ _ (by exact C_l_lowest) (by exact (hr.mono (by decide))) (@pC _ _ _ _ _ (@pP _ _ _ _ _ _ _ _ qch (@qax _ _ _ _ _ _ _ qa2 (pv 1) (@pP _ _ _ _ _ _ _ _ qaF (pv 0) pI) (by exact (fun _ _=>rfl))) (@qax _ _ _ _ _ _ _ qa2 (pv 1) (pv 0) (by exact (fun _ _=>rfl)))) (@pC _ _ _ _ _ (@cc _ _ _ _ _ _ _ _ _ _ (by exact C_l_power) (by exact (hr.mono (by decide))) (@pC _ _ _ _ _ (pv 2) (@pC _ _ _ _ _ (pv 3) pN ⋯) ⋯) ⋯ ⋯ ⋯ ⋯) pN ⋯) ⋯) ⋯ ⋯ ⋯ ⋯)) ⋯) pN ⋯) ⋯ ⋯ ⋯ ⋯))))) qa8) (@pK _ _ _ _ _ (@qcr _ _ _ _ _ _ _ _ (@qaL _ _ _ _ _ _ _ _ qfC (pv 2) pI (by exact (qaO _))) (@pK _ _ _ _ _ (@pZ _ _ (7) _ _ _ _ (by exact S.nd) ⋯ ⋯ (@pP _ _ _ _ _ _ _ _ qaF pI (@cc _ _ _ _ _ _ _ _ _ _ (by exact C_l_draw) (by exact (hr.mono (by decide))) (@pC _ _ _ _ _ (pv 0) (@pC _ _ _ _ _ pI pN ⋯) ⋯) ⋯ ⋯ ⋯ ⋯)) ⋯ ⋯) (@pK _ _ _ _ _ (@pZ _ _ (8) _ _ _ _ (by exact S.nd) ⋯ ⋯ (@qag _ _ _ _ _ _ _ _ _ qcI ⋯ (by exact T.z_sorted) (by exact qco) (@pC _ _ _ _ _ (@pP _ _ _ _ _ _ _ _ qeL (@qbb _ _ _ _ (@pC _ _ _ _ _ pI (@pC _ _ _ _ _ (pv 7) pN ⋯) ⋯)) (@qaE _ _ _ _ _ _ _ _ _ _ _ _ _ ⋯ (by exact (fun _ _ h=>h)) (by decide +kernel) ⋯ (by decide +kernel) (by exact qaJ rfl) (by exact Sees.frees ["_law_k"] [("_law_pen_here",0),("_law_bottom",7)] (qal ⟨rfl,rfl⟩ (qal ⟨rfl,rfl⟩ qaK))) (@qaA _ _ _ _ _ _ ⋯ (by exact T.z_range) (@pC _ _ _ _ _ (@pP _ _ _ _ _ _ _ _ qch (pv 1) pI) pN ⋯) ⋯) (fun _ _ _ _ _ => @pG _ _ (0) _ (by exact (show (["_law_k", "_law_pen_here", "_law_bottom"]:List Str).Nodup by decide +kernel)) ⋯ ⋯ ⋯) (fun _ _ _ _ _=>qaG) (fun _ _ _ _ _=>(@cc _ _ _ _ _ _ _ _ _ _ (by exact C_l_draw) (by exact (hr.mono (by decide))) (@pC _ _ _ _ _ (pv 1) (@pC _ _ _ _ _ (@pP _ _ _ _ _ _ _ _ qaF (pv 2) pI) pN ⋯) ⋯) ⋯ ⋯ ⋯ ⋯)) ⋯)) pN ⋯) ⋯ ⋯ ⋯ ⋯) ⋯ ⋯) (@pO _ _ _ (@qan _ _ _ _ (@qaB _ _ _ _ _ _ _ _ _ qaM ⋯ (by exact T.z_tuple) (by exact qbE) (@pC _ _ _ _ _ (@qaE _ _ _ _ _ _ _ _ _ _ _ _ _ ⋯ (by exact (fun _ _ h=>h)) (by decide +kernel) ⋯ (by decide +kernel) (by exact qaJ rfl) (by exact Sees.frees ["_law_k"] [("_law_cuts",8),("_law_bottom",7)] (qal ⟨rfl,rfl⟩ (qal ⟨rfl,rfl⟩ qaK))) (@qaA _ _ _ _ _ _ ⋯ (by exact T.z_range) (@pC _ _ _ _ _ (pv 1) pN ⋯) ⋯) (fun _ _ _ _ _ => @pG _ _ (0) _ (by exact (show (["_law_k", "_law_cuts", "_law_bottom"]:List Str).Nodup by decide +kernel)) ⋯ ⋯ ⋯) (fun _ _ _ _ _=>qaG) (fun _ _ _ _ _=>(@cc _ _ _ _ _ _ _ _ _ _ (by exact C_l_lowest) (by exact (hr.mono (by decide))) (@pC _ _ _ _ _ (@pP _ _ _ _ _ _ _ _ qch (@qax _ _ _ _ _ _ _ qa2 (pv 1) (@pP _ _ _ _ _ _ _ _ qaF (pv 0) pI) (by exact (fun _ _=>rfl))) (@qax _ _ _ _ _ _ _ qa2 (pv 1) (pv 0) (by exact (fun _ _=>rfl)))) (@pC _ _ _ _ _ (pv 2) pN ⋯) ⋯) ⋯ ⋯ ⋯ ⋯)) ⋯) pN ⋯) ⋯ ⋯ ⋯ ⋯))))) qa8) (@pK _ _ _ _ _ (@pZ _ _ (3) _ _ _ _ (by exact S.nd) ⋯ ⋯ (@qaE _ _ _ _ _ _ _ _ _ _ _ _ _ ⋯ (by exact (fun _ _ h=>h)) (by decide +kernel) ⋯ (by decide +kernel) (by exact qaJ rfl) (by exact Sees.frees ["_law_k"] [("_law_pen_here",0),("_law_way",2)] (qal ⟨rfl,rfl⟩ (qal ⟨rfl,rfl⟩ qaK))) (@qaA _ _ _ _ _ _ ⋯ (by exact T.z_range) (@pC _ _ _ _ _ (pv 1) pN ⋯) ⋯) (fun _ _ _ _ _ => @pG _ _ (0) _ (by exact (show (["_law_k", "_law_pen_here", "_law_way"]:List Str).Nodup by decide +kernel)) ⋯ ⋯ ⋯) (fun _ _ _ _ _=>qaG) (fun _ _ _ _ _=>(@cc _ _ _ _ _ _ _ _ _ _ (by exact C_l_draw) (by exact (hr.mono (by decide))) (@pC _ _ _ _ _ (pv 1) (@pC _ _ _ _ _ (@qax _ _ _ _ _ _ _ qa2 (@qbb _ _ _ _ (@pC _ _ _ _ _ pI (@pC _ _ _ _ _ pI (@pC _ _ _ _ _ pI pN ⋯) ⋯) ⋯)) (@pP _ _ _ _ _ _ _ _ qch (pv 2) pI) (by exact (fun _ _=>rfl))) pN ⋯) ⋯) ⋯ ⋯ ⋯ ⋯)) ⋯) ⋯ ⋯) (@pK _ _ _ _ _ (@qh1 _ _ _ _ _ _ _ _ _ _ _ _ _ (pv 3) (@cc _ _ _ _ _ _ _ _ _ _ (by exact C_l_draw) (by exact (hr.mono (by decide))) (@pC _ _ _ _ _ (pv 0) (@pC _ _ _ _ _ (pv 1) pN ⋯) ⋯) ⋯ ⋯ ⋯ ⋯) qgB pI qk0 set_list ⋯) (@pO _ _ _ (@qan _ _ _ _ (@qaB _ _ _ _ _ _ _ _ _ qaM ⋯ (by exact T.z_tuple) (by exact qbE) (@pC _ _ _ _ _ (@qaE _ _ _ _ _ _ _ _ _ _ _ _ _ ⋯ (by exact (fun _ _ h=>h)) (by decide +kernel) ⋯ (by decide +kernel) (by exact qaJ rfl) (by exact Sees.frees ["_law_weight"] [("_law_weights",3)] (qal ⟨rfl,rfl⟩ qaK)) (@qaS _ _ _ _ (pv 3)) (fun _ _ _ _ _ => @pG _ _ (0) _ (by exact (show (["_law_weight", "_law_weights"]:List Str).Nodup by decide +kernel)) ⋯ ⋯ ⋯) (fun _ _ _ _ _=>qaG) (fun _ _ _ _ _=>(@cc _ _ _ _ _ _ _ _ _ _ (by exact C_l_lowest) (by exact (hr.mono (by decide))) (@pC _ _ _ _ _ (pv 0) (@pC _ _ _ _ _ (@qag _ _ _ _ _ _ _ _ _ (qcn ⋯) ⋯ (by exact T.z_sum) (by exact qe8) (@pC _ _ _ _ _ (pv 1) pN ⋯) ⋯ ⋯ ⋯ ⋯) pN ⋯) ⋯) ⋯ ⋯ ⋯ ⋯)) ⋯) pN ⋯) ⋯ ⋯ ⋯ ⋯))))))))),?_⟩
 have fin:∀ (l:Addr) (ys:List V) (ts:List Int) (B:Int) (H':Hp),H' l=some (.lst ys)->Prs H' ys (ts.map fun x=>lowF x B)->ts.length=N->qfe ts B->PenY H' p (m + 15)->qbh p H H' ->
   ∃ q ys',[V.ref l]=[.ref q]/\((SqL K H' q ys'/\∀ t,H' t=none->Q (.ref t) (upd H' t (.tup ys')))\/(SqT K H' q ys'/\Q (.ref q) H')):=fun l ys ts B H' h1 h2 h3 h4 h5 h6 =>
  ⟨l,ys,rfl,.inl ⟨SqL.of h1,fun t ht=>k t ys ts B _ uS (Prs.same (sN ht _) h2) (by omega) h4 (h5.same (sN ht _)) (h6.trans (Same.y (sN ht _)))⟩⟩
 refine ⟨_,rfl,p,_,m,rfl,hp,by omega,by decide,by decide,fun d1 H1 d10 d11 p1 x1=>?_⟩
 refine ⟨_,rfl,rfl,_,rfl,?_⟩
 refine ite2 (fun c=>?_) (fun c=>?_)
 ·refine ⟨_,rfl,_,rfl,p,_,_,rfl,p1,by omega,by omega,by omega,fun d2 H2 d20 d21 p2 x2=>?_⟩
  refine ⟨_,rfl,_,rfl,by omega,by omega,qeq (n:=(N:Int).toNat) (lo:=0) (fs:=[some (.int d2)]) (fun i=>(if (i:Int)=d2 then 1 else 0,1)) (by omega) ?_ ?_⟩
  ·intro i H' Q' hi s' hq
   refine ⟨_,rfl,_,rfl,rfl,.inr ⟨_,rfl,lz 2 rfl,fun t ht=>hq _ _ (sN ht _) ⟨t,rfl,?_⟩⟩⟩
   rw [uS]
   congr 4
   by_cases e:(i:Int)=d2
   ·rw [if_pos e]; simp [e]
   ·rw [if_neg e]; simp [e]
  ·intro l ys H' s' hl pr
   have et:(List.range (N:Int).toNat).map (fun i:Nat=>((if (i:Int)=d2 then 1 else 0,1):Int × Int))=((List.range N).map fun i:Nat=>if (i:Int)=d2 then (1:Int) else 0).map fun x=>lowF x 1:=by
    rw [List.map_map,Int.toNat_natCast]
    refine List.map_congr_left fun i _=>?_
    show _=lowF (if (i:Int)=d2 then 1 else 0) 1
    rw [low1]
    split
    ·exact .inr rfl
    ·exact .inl rfl
   rw [et] at pr
   refine fin l ys _ 1 H' hl pr (by simp) ⟨fun x hx=>?_,?_,by decide,by decide⟩ ((p2.same s').mono (by omega)) ((x1.trans x2).trans (Same.y s'))
   ·obtain ⟨i,_,rfl⟩:=List.mem_map.mp hx
    split <;> decide
   ·rw [qhF d2 N d20,if_pos d21]
 refine ⟨_,rfl,rfl,_,rfl,?_⟩
 refine ite2 (fun c1=>?_) (fun c1=>?_)
 ·refine ⟨_,rfl,_,rfl,_,_,rfl,rfl,.inr ⟨_,rfl,_,_,rfl,rfl,p,_,_,rfl,p1,by omega,(by split <;> omega),(by split <;> omega),fun d2 H2 d20 d21 p2 x2=>⟨_,_,rfl,rfl,?_⟩⟩⟩
  have hd2:d2 < 3:=by split at d21 <;> omega
  obtain ⟨mm,hmm⟩:∃ mm:Nat,(1:Int) + d2=(mm:Int):=⟨(1 + d2).toNat,by omega⟩
  have m1:1≤mm:=by omega
  have m3:mm≤3:=by omega
  dsimp only
  rw [hmm]
  have hB:0 < (N:Int) ^ mm/\(N:Int) ^ mm≤2000:=by
   refine ⟨Int.pow_pos (by omega),?_⟩
   rcases (show mm=1\/mm=2\/mm=3 by omega) with rfl | rfl | rfl
   ·rw [Int.pow_succ,Int.pow_zero]; omega
   ·rw [Int.pow_succ,Int.pow_succ,Int.pow_zero,Int.one_mul]
    exact Int.le_trans (Int.mul_le_mul n2 n2 (by omega) (by decide)) (by decide)
   ·rw [Int.pow_succ,Int.pow_succ,Int.pow_succ,Int.pow_zero,Int.one_mul]
    exact Int.le_trans (Int.mul_le_mul (Int.mul_le_mul n2 n2 (by omega) (by decide)) n2 (by omega) (by decide)) (by decide)
  refine ⟨lz 1 rfl,fun q1 hq1=>?_⟩
  have s1:=sN hq1 (.lst [.int 0])
  refine ⟨_,rfl,_,rfl,by omega,by omega,qbD (n:=(N:Int).toNat) (lo:=0) (fs:=[some (.int mm)]) (fun acc i ys H'=>Same (upd H2 q1 (.lst [.int 0])) H'/\ys=iv ((List.range i).map fun k:Nat=>((k:Int) + 1) ^ mm)) (by omega) ?_ ?_ ?_⟩
  ·intro acc hacc
   exact ⟨sN hacc _,rfl⟩
  ·rintro acc i ys H' hacc hi hl ⟨s',rfl⟩ hacc' Q' hQ
   refine ⟨_,rfl,_,_,rfl,rfl,_,rfl,_,mm,rfl,by omega,by omega,by omega,hQ _ H' hacc' ⟨qao hacc s' _,?_⟩⟩
   rw [List.range_succ,List.map_append,Int.zero_add]
   simp
  rintro q2 ys H' hq2 ⟨s',rfl⟩ hq2' _
  refine ⟨q1,q2,_,_,rfl,rfl,s' _ _ uS,hq2',lzz (by simp; omega),fun q3 hq3=>?_⟩
  have s3:=sN hq3 (.lst ([.int 0] ++ iv ((List.range (N:Int).toNat).map fun k:Nat=>((k:Int) + 1) ^ mm)))
  have el:([.int 0] ++ iv ((List.range (N:Int).toNat).map fun k:Nat=>((k:Int) + 1) ^ mm):List V)=iv ((List.range (N + 1)).map fun k:Nat=>(k:Int) ^ mm):=by
   rw [Int.toNat_natCast,<- qjJ N mm m1]; rfl
  rw [el] at s3 ⊢
  have h3:(upd H' q3 (.lst (iv ((List.range (N + 1)).map fun k:Nat=>(k:Int) ^ mm)))) q3=some (.lst (iv ((List.range (N + 1)).map fun k:Nat=>(k:Int) ^ mm))):=uS
  have sA:=(s1.trans s').trans s3
  generalize upd H' q3 (.lst (iv ((List.range (N + 1)).map fun k:Nat=>(k:Int) ^ mm)))=H4 at h3 sA
  have gt:∀ i:Nat,i < N + 1->atI (iv ((List.range (N + 1)).map fun k:Nat=>(k:Int) ^ mm)) (i:Int)=some (.int ((i:Int) ^ mm)):=fun i hi=>by
   rw [qdi (by simp; exact hi),qaa (by simp; exact hi)]; simp
  refine ⟨_,rfl,_,rfl,by omega,by omega,qeq (n:=(N:Int).toNat) (lo:=0) (fs:=[some (.ref q3),some (.int N),some (.int mm)]) (fun i=>lowF (((i:Int) + 1) ^ mm - (i:Int) ^ mm) ((N:Int) ^ mm)) (by omega) ?_ ?_⟩
  ·intro i H' Q' hi s' hq
   have hi':i < N:=by omega
   have pm:(i:Int) ^ mm≤((i:Int) + 1) ^ mm:=qlr i mm
   refine ⟨_,rfl,_,rfl,_,_,rfl,rfl,q3,_,_,_,rfl,rfl,s' _ _ h3,(by have:=gt (i + 1) (by omega); rw [Int.zero_add]; rw [Int.natCast_add] at this; exact this),_,rfl,_,rfl,q3,_,_,_,rfl,rfl,s' _ _ h3,(by rw [Int.zero_add]; exact gt i (by omega)),_,_,rfl,rfl,
    _,rfl,_,rfl,_,mm,rfl,by omega,by omega,by omega,_,_,rfl,?_,hB.1,qje hB.1 hB.2,fun v H'' s'' hv=>hq v H'' s'' hv⟩
   ·show 0≤((i:Int) + 1) ^ mm - (i:Int) ^ mm
    omega
  ·intro l ys H' s' hl pr
   rw [Int.toNat_natCast] at pr
   have et:(List.range N).map (fun i:Nat=>lowF (((i:Int) + 1) ^ mm - (i:Int) ^ mm) ((N:Int) ^ mm))=((List.range N).map fun i:Nat=>((i:Int) + 1) ^ mm - (i:Int) ^ mm).map fun x=>lowF x ((N:Int) ^ mm):=by rw [List.map_map]; rfl
   rw [et] at pr
   refine fin l ys _ _ H' hl pr (by simp) ⟨fun x hx=>?_,?_,hB.1,hB.2⟩ (((p2.same sA).same s').mono (by omega)) ((x1.trans x2).trans (Same.y (sA.trans s')))
   ·obtain ⟨i,_,rfl⟩:=List.mem_map.mp hx
    have:(i:Int) ^ mm≤((i:Int) + 1) ^ mm:=qlr i mm
    omega
   ·have:=tele (fun k:Nat=>(k:Int) ^ mm) N
    have e0:((0:Nat):Int) ^ mm=0:=by
     obtain ⟨m',rfl⟩:∃ m',mm=m' + 1:=⟨mm - 1,by omega⟩
     rw [Int.pow_succ]; simp
    simp only [Int.natCast_add] at this
    rw [e0] at this
    simpa using this
 refine ⟨_,rfl,rfl,_,rfl,?_⟩
 refine ite2 (fun c2=>?_) (fun c2=>?_)
 ·refine ⟨_,rfl,p,_,_,rfl,p1,by omega,by decide,by decide,fun d2 H2 d20 d21 p2 x2=>⟨_,_,rfl,rfl,?_⟩⟩
  dsimp only
  generalize hB:(1:Int) + d2=B
  have B0:0 < B:=by omega
  have B1:B≤1000:=by omega
  refine ⟨_,rfl,lz 2 rfl,fun q1 hq1=>?_⟩
  have s1:=sN hq1 (.lst [.int 0,.int B])
  have p3:=p2.same s1
  have h1:(upd H2 q1 (.lst [.int 0,.int B])) q1=some (.lst [.int 0,.int B]):=uS
  have n1p:q1≠p:=p2.ne hq1
  generalize upd H2 q1 (.lst [.int 0,.int B])=H3 at s1 p3 h1
  refine ⟨_,rfl,_,_,rfl,rfl,_,rfl,by omega,by omega,qbD (n:=((N:Int) - 1).toNat) (lo:=0) (fs:=[some (.ref p),some (.int B)]) (fun acc i ys H'=>PenY H' p (m + 2 + i)/\qbh p H3 H'/\∃ bs:List Int,ys=iv bs/\∀ b∈bs,0≤b/\b≤B) (by omega) ?_ ?_ ?_⟩
  ·intro acc hacc
   exact ⟨p3.same (sN hacc _),(Same.y (sN hacc _)),[],rfl,by simp⟩
  ·rintro acc i ys H' hacc hi hl ⟨p',x',bs,rfl,hb⟩ hacc' Q' hQ
   refine ⟨_,rfl,_,rfl,_,_,rfl,rfl,p,_,_,rfl,p',by omega,by omega,by omega,fun r H5 r0 r1 p5 x5=>?_⟩
   obtain ⟨u1,u2⟩:=qcR hacc p3 (x'.trans x5) p5 (.lst (iv bs ++ [.int r]))
   refine hQ _ H5 (x5.all _ _ hacc' (p3.ne hacc)) ⟨u1,u2,bs ++ [r],by simp,fun b hbm=>?_⟩
   rcases List.mem_append.mp hbm with q | q
   ·exact hb b q
   ·have:b=r:=by simpa using q
    omega
  rintro q2 ys H4 hq2 ⟨p4,x4,bs,rfl,hb⟩ hq2' hlen
  have hbl:bs.length=N - 1:=by
   have:bs.length=((N:Int) - 1).toNat:=by simpa using hlen
   omega
  refine ⟨q1,q2,_,_,rfl,rfl,x4.all _ _ h1 n1p,hq2',lzz (by simp; omega),fun q3 hq3=>?_⟩
  have s5:=sN hq3 (.lst (([.int 0,.int B]:List V) ++ iv bs))
  have el:(([.int 0,.int B]:List V) ++ iv bs)=iv (0 :: B :: bs):=rfl
  rw [el] at s5 ⊢
  refine ⟨q3,0 :: B :: bs,rfl,uS,by simp; omega,fun q4 ms hq4 hpm hst=>?_⟩
  have s6:=sN hq4 (.lst (iv ms))
  obtain ⟨ml,e0,eB,mono⟩:=qfs hpm hst (by omega) hb
  have h7:(upd (upd H4 q3 (.lst (iv (0 :: B :: bs)))) q4 (.lst (iv ms))) q4=some (.lst (iv ms)):=uS
  have sA:=s5.trans s6
  generalize upd (upd H4 q3 (.lst (iv (0 :: B :: bs)))) q4 (.lst (iv ms))=H7 at h7 sA
  refine ⟨_,rfl,_,rfl,by omega,by omega,qeq (n:=(N:Int).toNat) (lo:=0) (fs:=[some (.ref q4),some (.int B)]) (fun i=>lowF (ms.getD (i + 1) 0 - ms.getD i 0) B) (by omega) ?_ ?_⟩
  ·intro i H' Q' hi s' hq
   have hi':i < N:=by omega
   have:=mono i (i + 1) (by omega) (by omega)
   refine ⟨_,rfl,_,rfl,_,_,rfl,rfl,q4,_,_,_,rfl,rfl,s' _ _ h7,(by have:=qdi (ns:=ms) (i:=i + 1) (by omega); rw [Int.zero_add]; rw [Int.natCast_add] at this; exact this),_,rfl,_,rfl,q4,_,_,_,rfl,rfl,s' _ _ h7,(by rw [Int.zero_add]; exact qdi (by omega)),_,_,rfl,rfl,
    _,rfl,_,_,rfl,?_,B0,qje B0 (by omega),fun v H'' s'' hv=>hq v H'' s'' hv⟩
   ·show 0≤ms.getD (i + 1) 0 - ms.getD i 0
    omega
  ·intro l ys H' s' hl pr
   rw [Int.toNat_natCast] at pr
   have et:(List.range N).map (fun i:Nat=>lowF (ms.getD (i + 1) 0 - ms.getD i 0) B)=((List.range N).map fun i:Nat=>ms.getD (i + 1) 0 - ms.getD i 0).map fun x=>lowF x B:=by rw [List.map_map]; rfl
   rw [et] at pr
   refine fin l ys _ _ H' hl pr (by simp) ⟨fun x hx=>?_,?_,B0,by omega⟩ (((p4.same sA).same s').mono (by omega)) ((((x1.trans x2).trans (Same.y s1)).trans x4).trans (Same.y (sA.trans s')))
   ·obtain ⟨i,hi,rfl⟩:=List.mem_map.mp hx
    have hi':i < N:=by simpa using hi
    have:=mono i (i + 1) (by omega) (by omega)
    omega
   ·have:=tele (fun k:Nat=>ms.getD k 0) N
    rw [e0,show N=bs.length + 1 by omega,eB] at this
    rw [show N=bs.length + 1 by omega]
    omega
 ·have d13:3≤d1:=by
   have:=tstN c
   have:=tstN c1
   have:=tstN c2
   omega
  obtain ⟨z,z0,z1,hz⟩:=way3 d13 d11
  refine ⟨_,rfl,_,rfl,by omega,by omega,qbD (n:=(N:Int).toNat) (lo:=0) (fs:=[some (.ref p),some (.int d1)]) (fun acc i ys H'=>PenY H' p (m + 1 + i)/\qbh p H1 H'/\∃ bs:List Int,ys=iv bs/\∀ b∈bs,0≤b/\b < 10) (by omega) ?_ ?_ ?_⟩
  ·intro acc hacc
   exact ⟨p1.same (sN hacc _),(Same.y (sN hacc _)),[],rfl,by simp⟩
  ·rintro acc i ys H' hacc hi hl ⟨p',x',bs,rfl,hb⟩ hacc' Q' hQ
   refine ⟨_,rfl,lz 3 rfl,fun t ht=>?_⟩
   have st:=sN ht (.lst [.int 10,.int 2,.int 4])
   refine ⟨_,rfl,_,_,rfl,rfl,t,_,_,_,rfl,rfl,uS,hz,p,_,_,rfl,p'.same st,by omega,by omega,by omega,fun r H5 r0 r1 p5 x5=>?_⟩
   obtain ⟨u1,u2⟩:=qcR hacc p1 ((x'.trans (Same.y st)).trans x5) p5 (.lst (iv bs ++ [.int r]))
   refine hQ _ H5 (x5.all _ _ (st _ _ hacc') (p1.ne hacc)) ⟨u1,u2,bs ++ [r],by simp,fun b hbm=>?_⟩
   rcases List.mem_append.mp hbm with q | q
   ·exact hb b q
   ·have:b=r:=by simpa using q
    omega
  rintro l ys H2 hl ⟨p2,x2,bs,rfl,hb⟩ hl' hlen
  have hbl:bs.length=N:=by
   have:bs.length=(N:Int).toNat:=by simpa using hlen
   omega
  have hlp:l≠p:=p1.ne hl
  refine ⟨_,rfl,_,rfl,_,rfl,p,_,_,rfl,p2,by omega,by omega,by omega,fun r H3 r0 r1 p3 x3=>?_⟩
  have hl3:=x3.all _ _ hl' hlp
  obtain ⟨rn,rfl⟩:∃ rn:Nat,r=(rn:Int):=⟨r.toNat,by omega⟩
  have hrn:rn < bs.length:=by omega
  refine ⟨l,_,_,_,rfl,rfl,by omega,hl3,qdi hrn,_,_,rfl,rfl,l,_,_,rn,rfl,rfl,hl3,qkW (by simpa using hrn),?_⟩
  have ew:(iv bs).set rn (.int (bs.getD rn 0 + 1))=iv (bs.set rn (bs.getD rn 0 + 1)):=by simp
  rw [ew]
  have wb:∀ x∈bs.set rn (bs.getD rn 0 + 1),0≤x/\x≤10:=fun x hx=>by
   rcases List.mem_or_eq_of_mem_set hx with q | q
   ·have:=hb x q; omega
   ·have:=hb (bs.getD rn 0) (by rw [qaa hrn]; exact List.getElem_mem hrn)
    omega
  have wm:bs.getD rn 0 + 1∈bs.set rn (bs.getD rn 0 + 1):=List.mem_set hrn _
  have w1:1≤bs.getD rn 0 + 1:=by
   have:=hb (bs.getD rn 0) (by rw [qaa hrn]; exact List.getElem_mem hrn)
   omega
  have wl:(bs.set rn (bs.getD rn 0 + 1)).length=N:=by simp; exact hbl
  obtain ⟨p4,x4⟩:=qcR hl p1 (x2.trans x3) p3 (.lst (iv (bs.set rn (bs.getD rn 0 + 1))))
  generalize hws:bs.set rn (bs.getD rn 0 + 1)=ws at wb wm wl p4 x4
  have h4:(upd H3 l (.lst (iv ws))) l=some (.lst (iv ws)):=uS
  generalize upd H3 l (.lst (iv ws))=H4 at p4 x4 h4
  have s1:=qiy (fun x hx=>(wb x hx).1) wm
  have s2:=qkI fun x hx=>(wb x hx).2
  rw [wl] at s2
  refine ⟨_,rfl,l,rfl,⟨_,SqL.of h4⟩,qku (fs:=[some (.ref l)]) (fun x=>lowF x ws.sum) (by omega) h4 ?_ ?_⟩
  ·intro x H' Q' hx s' hq
   exact ⟨_,rfl,_,rfl,l,ws,rfl,s' _ _ h4,_,_,rfl,(wb x hx).1,by omega,qje (by omega) (by omega),fun v H'' s'' hv=>hq v H'' s'' hv⟩
  ·intro q ys H' s' hq pr
   exact fin q ys ws _ H' hq pr wl ⟨fun x hx=>(wb x hx).1,rfl,by omega,by omega⟩ ((p4.same s').mono (by omega)) ((x1.trans x4).trans (Same.y s'))
end
end My
namespace My
open PySem L2 MA Srt
def itF (c:List Int):Nat->Mp->Mp
 | 0,m=>m
 | k + 1,m=>qb4 c (itF c k m)
theorem qed (l:List Int)(r:Nat):(putL l r).length=l.length:=by unfold putL; rw [qfR,List.length_set]
theorem qi2 {c:List Int}{m:Mp}{n:Nat}(h:∀ k∈qaf m,k.length=n):∀ k∈qaf (qb4 c m),k.length=n:=by
 intro k hk
 unfold qb4 at hk
 rw [qdk,qeR] at hk
 obtain ⟨l,hl,hk⟩:=hk
 have:∀ n',∀ k∈qaf (qbm c n' l),k.length=l.length:=by
  intro n'
  induction n' with
  | zero=>intro k hk; simp [qbm,qaf] at hk
  | succ n' ih =>
   intro k hk
   rw [qbt] at hk
   simp only [qaf,List.map_append,List.mem_append] at hk
   rcases hk with hk | hk
   ·exact ih k hk
   ·split at hk
    ·simp at hk; subst hk; exact qed _ _
    ·simp at hk
 rw [this _ k hk,h l hl]
theorem qiE {c:List Int}{m:Mp}{n:Nat}(h:∀ k∈qaf m,k.length=n):∀ j,∀ k∈qaf (itF c j m),k.length=n
 | 0=>h
 | j + 1=>qi2 (qiE h j)
theorem qkh {c:List Int}{m:Mp}(h:(qaf m).Nodup):∀ j,(qaf (itF c j m)).Nodup
 | 0=>h
 | _ + 1=>qdR _
def botF (qs:List Rat):Int:=lqF qs 1
def qjp (qs:List Rat)(rs:Spd)(k:Nat):Spd:=sprF (itF (tpF (botF qs) qs) k (wtF (botF (rs.map (·.2))) rs)) (botF (rs.map (·.2)) * botF qs ^ k)
structure Fit (qs:List Rat)(rs:Spd)(k:Nat):Prop where
 ne:rs≠[]
 nd:(rs.map (·.1)).Nodup
 ln:∀ r∈rs,r.1.length=qs.length
 q6:qs.length≤6
 sr:∀ r∈rs,SB 50 r.2
 sq:∀ q∈qs,SB 50 q
 few:rs.length≤24
 bB:botF (rs.map (·.2)) < 1000000
 bb:botF qs < 1000000
 k1:k≤100
 cap:∀ j≤k,(itF (tpF (botF qs) qs) j (wtF (botF (rs.map (·.2))) rs)).length≤60
 bits:∀ j≤k,∀ x∈qau (itF (tpF (botF qs) qs) j (wtF (botF (rs.map (·.2))) rs)),Bt 8000 x
theorem qjH (B b:Int)(k:Nat):([B] ++ List.replicate k b).prod=B * b ^ k:=by
 rw [List.prod_append,List.prod_cons,List.prod_nil,Int.mul_one]
 congr 1
 induction k with
 | zero=>simp
 | succ k ih=>rw [List.replicate_succ,List.prod_cons,ih,Int.pow_succ,Int.mul_comm]
theorem qd1 {qs:List Rat}(h:∀ q∈qs,SB 50 q)(hn:qs.length≤24):(∀ q∈qs,SB 3000 q)/\∃ S:Int,0 < S/\Bt 3000 S/\∀ q∈qs,(q.den:Int) ∣ S :=
 ⟨fun q hq=>(h q hq).mono (by decide),lqF qs 1,(qbN qs 1 (by decide)).1,(qiu qs 1 1 (by decide) (Bt.of_lt (by decide)) h).mono (by omega),(qbN qs 1 (by decide)).2.2⟩
theorem qfY {rs:Spd}(h:∀ r∈rs,SB 50 r.2)(hn:rs.length≤24):(∀ r∈rs,SB 3000 r.2)/\∃ S:Int,0 < S/\Bt 3000 S/\∀ r∈rs,(r.2.den:Int) ∣ S:=by
 obtain ⟨h1,S,h2,h3,h4⟩:=qd1 (qs:=rs.map (·.2)) (fun q hq=>by obtain ⟨r,hr,rfl⟩:=List.mem_map.mp hq; exact h r hr) (by simpa using hn)
 exact ⟨fun r hr=>h1 _ (List.mem_map_of_mem hr),S,h2,h3,fun r hr=>h4 _ (List.mem_map_of_mem hr)⟩
theorem qgM {b:Int}(h0:0 < b)(h:b < 1000000):Bt 8000 b:=(Bt.of_lt (n:=20) (show b.natAbs < 2 ^ 20 by have:(2:Nat) ^ 20=1048576:=rfl; omega)).mono (by decide)
section
variable {P:Program}{w:World}{K:PySem.W.Frag}{mg:Str->Option Value}{base:Heap}
def qkN:Sp:=fun vs H Q _=>∃ (a b:Addr) (xs ys:List V),vs=[.ref a,.ref b]/\H a=some (.tup xs)/\H b=some (.tup ys)/\xs.length=ys.length/\Q .non H
theorem qlM (T:Txt2 mg)(F:FunAt K mg "ask_boxes" ["ranks", "load"] s_ask_boxes):Cal P w K mg base "ask_boxes" ["ranks", "load"] 1 qkN:=by
 have S:=qcE
 refine F.cal qcE (fun vs H Q E h=>?_) (fun f cdv A outer s H vs Q E hr h=>?_)
 ·obtain ⟨a,b,xs,ys,rfl,_⟩:=h; rfl
 obtain ⟨a,b,xs,ys,rfl,ha,hb,hl,k⟩:=h
 refine ⟨_,(@pO _ _ _ (@qcr _ _ _ _ _ _ _ _ (@qaL _ _ _ _ _ _ _ _ qlE (@qag _ _ _ _ _ _ _ _ _ qai ⋯ (by exact T.z_len) (by exact qa4) (@pC _ _ _ _ _ (pv 0) pN ⋯) ⋯ ⋯ ⋯ ⋯) (@qag _ _ _ _ _ _ _ _ _ qai ⋯ (by exact T.z_len) (by exact qa4) (@pC _ _ _ _ _ (pv 1) pN ⋯) ⋯ ⋯ ⋯ ⋯) (by exact (qaO _))) (@pO _ _ _ qgj) qa8)),?_⟩
 refine ⟨_,rfl,a,_,rfl,.inr (SqT.of ha),_,rfl,b,_,rfl,.inr (SqT.of hb),rfl,_,rfl,?_⟩
 exact ite2 (fun c=>absurd c (by simp [hl])) fun _=>k
def qfq:Sp:=fun vs H Q _=>∃ (a l:Addr) (xs:List V) (qs:List Rat) (rs:Spd) (k:Nat),vs=[.ref a,.ref l,.int (k:Int)]/\H a=some (.tup xs)/\Shs H xs qs/\SpAt H l rs/\Fit qs rs k /\
 ∀ (l':Addr) (H':Hp),Same H H'->H l'=none->SpAt H' l' (qjp qs rs k)->Q (.ref l') H'
theorem qj3 (T:Txt2 mg){tk:Tok}(hml:mg "MOST_LOADS" = some (.int 60 tk))(C_ask_boxes:Cal P w K mg base "ask_boxes" ["ranks", "load"] 1 qkN)(C_weighed:Cal P w K mg base "weighed" ["some"] 2 qcN)(C_weights_of:Cal P w K mg base "weights_of" ["spread"] 3 qc2)
  (C_come:Cal P w K mg base "come" ["chances", "weights"] 3 qkM) (C_spread_of:Cal P w K mg base "spread_of" ["weights", "bottoms"] 3 qdC) (F:FunAt K mg "after" ["rule", "spread", "many"] s_after):Cal P w K mg base "after" ["rule", "spread", "many"] 4 qfq:=by
 have S:=qgc
 refine F.cal qgc (fun vs H Q E h=>?_) (fun f cdv A outer s H vs Q E hr h=>?_)
 ·obtain ⟨a,l,xs,qs,rs,k,rfl,_⟩:=h; rfl
 obtain ⟨a,l,xs,qs,rs,k,rfl,ha,shs,spl,fit,kk⟩:=h
 obtain ⟨ys,hl,rws⟩:=id spl
 have xl:=shs.length
 have yl:=Paired.length rws
 refine ⟨_,(@pK _ _ _ _ _ (@qfx _ _ _ _ (@cc _ _ _ _ _ _ _ _ _ _ (by exact C_ask_boxes) (by exact (hr.mono (by decide))) (@pC _ _ _ _ _ (pv 0) (@pC _ _ _ _ _ (@qax _ _ _ _ _ _ _ qbg (@qax _ _ _ _ _ _ _ qbd (pv 1) pI (by exact (fun _ _=>rfl))) pI (by exact (fun _ _=>rfl))) pN ⋯) ⋯) ⋯ ⋯ ⋯ ⋯) ⋯) (@pK _ _ _ _ _ (@qbH _ _ _ _ _ _ (@cc _ _ _ _ _ _ _ _ _ _ (by exact C_weighed) (by exact (hr.mono (by decide))) (@pC _ _ _ _ _ (@qaB _ _ _ _ _ _ _ _ _ qbc ⋯ (by exact T.z_list) (by exact qdo) (@pC _ _ _ _ _ (pv 0) pN ⋯) ⋯ ⋯ ⋯ ⋯) pN ⋯) ⋯ ⋯ ⋯ ⋯) (@qbs _ _ _ _ _ _ ⋯ (@qab _ _ _ _ _ (@pG _ _ (4) _ (by exact S.nd) ⋯ ⋯ ⋯) (@qab _ _ _ _ _ (@pG _ _ (5) _ (by exact S.nd) ⋯ ⋯ ⋯) qas ⋯) ⋯) ⋯ ⋯) ⋯ ⋯ ⋯) (@pK _ _ _ _ _ (@qbH _ _ _ _ _ _ (@cc _ _ _ _ _ _ _ _ _ _ (by exact C_weights_of) (by exact (hr.mono (by decide))) (@pC _ _ _ _ _ (pv 1) pN ⋯) ⋯ ⋯ ⋯ ⋯) (@qbs _ _ _ _ _ _ ⋯ (@qab _ _ _ _ _ (@pG _ _ (6) _ (by exact S.nd) ⋯ ⋯ ⋯) (@qab _ _ _ _ _ (@pG _ _ (7) _ (by exact S.nd) ⋯ ⋯ ⋯) qas ⋯) ⋯) ⋯ ⋯) ⋯ ⋯ ⋯) (@pK _ _ _ _ _ (@qbj _ _ _ _ _ _ _ _ (by exact PassesOwn.never) ⋯ (@qaA _ _ _ _ _ _ ⋯ (by exact T.z_range) (@pC _ _ _ _ _ (pv 2) pN ⋯) ⋯) (@pG _ _ (3) _ (by exact S.nd) ⋯ ⋯ ⋯) (@pK _ _ _ _ _ (@pZ _ _ (6) _ _ _ _ (by exact S.nd) ⋯ ⋯ (@cc _ _ _ _ _ _ _ _ _ _ (by exact C_come) (by exact (hr.mono (by decide))) (@pC _ _ _ _ _ (pv 4) (@pC _ _ _ _ _ (pv 6) pN ⋯) ⋯) ⋯ ⋯ ⋯ ⋯) ⋯ ⋯) (@pO _ _ _ (@qcr _ _ _ _ _ _ _ _ (@qaL _ _ _ _ _ _ _ _ qfB (@qag _ _ _ _ _ _ _ _ _ qjb ⋯ (by exact T.z_len) (by exact qa4) (@pC _ _ _ _ _ (pv 6) pN ⋯) ⋯ ⋯ ⋯ ⋯) (@qlv _ _ (.int 60) _ _ ⋯ (by exact hml) (by exact ⟨_,rfl⟩) ⋯) (by exact (qaO _))) (@pO _ _ _ qgj) qa8))) ⋯) (@pO _ _ _ (@qan _ _ _ _ (@cc _ _ _ _ _ _ _ _ _ _ (by exact C_spread_of) (by exact (hr.mono (by decide))) (@pC _ _ _ _ _ (pv 6) (@pC _ _ _ _ _ (@pP _ _ _ _ _ _ _ _ qeL (@qbb _ _ _ _ (@pC _ _ _ _ _ (pv 7) pN ⋯)) (@pP _ _ _ _ _ _ _ _ qib (@qbb _ _ _ _ (@pC _ _ _ _ _ (pv 5) pN ⋯)) (pv 2))) pN ⋯) ⋯) ⋯ ⋯ ⋯ ⋯))))))),?_⟩
 obtain ⟨r0,rs',ers⟩:∃ r0 rs',rs=r0 :: rs':=by
  cases rs with
  | nil=>exact absurd rfl fit.ne
  | cons r0 rs'=>exact ⟨r0,rs',rfl⟩
 have hy0:∃ y0,ys[0]?=some y0:=by
  have:0 < ys.length:=by rw [yl,ers]; simp
  exact ⟨_,List.getElem?_eq_getElem this⟩
 obtain ⟨y0,hy0⟩:=hy0
 obtain ⟨r,hr0,a0,b0,v0,rfl,ha0,hb0,hv0⟩:=qaz rws hy0
 have rm:r∈rs:=List.mem_of_getElem? hr0
 refine ⟨_,rfl,_,rfl,l,_,_,_,rfl,rfl,SqL.of hl,qdq hy0,a0,_,_,_,rfl,rfl,SqT.of ha0,rfl,a,b0,_,_,rfl,ha,hb0,?_,?_⟩
 ·rw [List.length_map,xl,fit.ln r rm]
 refine ⟨_,rfl,a,_,rfl,.inr (SqT.of ha),fun l1 hl1=>?_⟩
 have s1:=sN hl1 (.lst xs)
 refine ⟨l1,xs,qs,rfl,uS,shs.same s1,(qd1 fit.sq (by have:=fit.q6; omega)).1,(qd1 fit.sq (by have:=fit.q6; omega)).2,by have:=fit.q6; omega,fun t c H2 s2 ht hc=>?_⟩
 refine ⟨t,_,rfl,SqT.of ht,rfl,_,_,rfl,_,_,rfl,rfl,?_⟩
 have s12:=s1.trans s2
 refine ⟨_,rfl,l,rs,rfl,spl.same s12,fit.nd,(qfY fit.sr fit.few).1,(qfY fit.sr fit.few).2,by have:=fit.few; omega,fun t2 d H3 s3 ht2 hdn hd=>?_⟩
 refine ⟨t2,_,rfl,SqT.of ht2,rfl,_,_,rfl,_,_,rfl,rfl,?_⟩
 have s13:=s12.trans s3
 change H3 d=some (dI (wtF (botF (rs.map (·.2))) rs)) at hd
 change H2 c=some (.lst (iv (tpF (botF qs) qs))) at hc
 have k1:=fit.k1
 refine ⟨_,rfl,(k:Int),rfl,by omega,by omega,qck (n:=(k:Int).toNat) (fun i σ H'=>Same H3 H'/\∃ d' o,H' d'=some (dI (itF (tpF (botF qs) qs) i (wtF (botF (rs.map (·.2))) rs)))/\σ=[some (.ref a),some (.ref l),some (.int (k:Int)),o,some (.ref c),some (.int (botF qs)),some (.ref d'),some (.int (botF (rs.map (·.2))))]) ?_ ?_ ?_⟩
 ·exact ⟨Same.refl _,d,_,hd,rfl⟩
 ·rintro i σ H4 hi ⟨s4,d',o,hd',rfl⟩
  have hi':i < k:=by omega
  have kl0:∀ kx∈qaf (wtF (botF (rs.map (·.2))) rs),kx.length=qs.length:=by
   intro kx hk
   rw [qfg] at hk
   obtain ⟨r,hr',rfl⟩:=List.mem_map.mp hk
   exact fit.ln r hr'
  have cl:(tpF (botF qs) qs).length=qs.length:=by simp [tpF]
  refine ⟨_,rfl,_,rfl,c,d',_,_,rfl,(s3.trans s4) _ _ hc,hd',by have:=fit.cap i (by omega); omega,fun kx hk=>by rw [qiE kl0 i kx hk,cl],by rw [cl]; exact fit.q6,fun x hx=>?_,fit.bits i (by omega),fun e H5 s5 he hH5=>?_⟩
  ·obtain ⟨q,hq,rfl⟩:=List.mem_map.mp hx
   obtain ⟨S0,hS0,bS0,dS0⟩:=(qd1 fit.sq (by have:=fit.q6; omega)).2
   have b1:=(qgq hS0 bS0 dS0 qs.length).2
   rw [List.take_length] at b1
   exact ((fit.sq q hq).1.mul (b1.ediv (by have:=q.den_pos; omega))).mono (by decide)
  refine ⟨_,rfl,e,_,rfl,.inl hH5,_,_,rfl,rfl,_,rfl,?_⟩
  refine ite2 (fun c=>?_) (fun _=>⟨s4.trans s5,e,_,hH5,rfl⟩)
  exfalso
  have:=fit.cap (i + 1) (by omega)
  have c':=of_decide_eq_true c
  rw [List.length_map] at c'
  have:((qb4 (tpF (botF qs) qs) (itF (tpF (botF qs) qs) i (wtF (botF (rs.map (·.2))) rs))).length:Int)≤60:=by exact_mod_cast this
  omega
 ·rintro σ H4 ⟨s4,d',o,hd',rfl⟩
  rw [show (k:Int).toNat=k by omega] at hd'
  refine ⟨_,rfl,_,rfl,lz 1 rfl,fun l2 hl2=>?_⟩
  have s5:=sN hl2 (.lst [.int (botF (rs.map (·.2)))])
  refine ⟨_,rfl,lz 1 rfl,fun l3 hl3=>?_⟩
  have s6:=sN hl3 (.lst [.int (botF qs)])
  refine ⟨_,rfl,l3,(k:Int),_,rfl,rfl,uS,by omega,by omega,?_,fun l4 hl4=>?_⟩
  ·show 1 * (k:Int).toNat≤sizeLine
   rw [sizeLine_eq]; omega
  have s7:=sN hl4 (.lst (List.replicate (k:Int).toNat [V.int (botF qs)]).flatten)
  refine ⟨l2,l4,_,_,rfl,rfl,(s6.trans s7) _ _ uS,uS,?_,fun l5 hl5=>?_⟩
  ·rw [rep1]; simp; rw [sizeLine_eq]; omega
  have s8:=sN hl5 (.lst ([V.int (botF (rs.map (·.2)))] ++ (List.replicate (k:Int).toNat [V.int (botF qs)]).flatten))
  have s58:=s5.trans (s6.trans (s7.trans s8))
  have hB:=(qbN (rs.map (·.2)) 1 (by decide)).1
  have hb:=(qbN qs 1 (by decide)).1
  refine ⟨d',l5,_,[botF (rs.map (·.2))] ++ List.replicate k (botF qs),rfl,s58 _ _ hd',?_,qkh (by rw [qfg]; exact fit.nd) k,by have:=fit.cap k (Nat.le_refl _); omega,fun b hb'=>?_,fun l' H9 s9 hn sp=>?_⟩
  ·rw [uS,rep1,show (k:Int).toNat=k by omega]; simp [iv]
  ·rcases List.mem_append.mp hb' with h | h
   ·rw [List.mem_singleton.mp h]; exact ⟨hB,qgM hB fit.bB,.inl (by have:=fit.bB; omega)⟩
   ·rw [(List.mem_replicate.mp h).2]; exact ⟨hb,qgM hb fit.bb,.inl (by have:=fit.bb; omega)⟩
  ·rw [qjH] at sp
   have sZ:=s13.trans (s4.trans s58)
   exact kk l' H9 (sZ.trans s9) (none_of sZ hn) sp
def qfp:Sp:=fun vs H Q _=>∃ (b:Addr) (ns:List Int),vs=[.ref b]/\H b=some (.tup (iv ns))/\∀ (l:Addr) (H':Hp),Same H H'->H l=none->SpAt H' l [(ns,1)]->Q (.ref l) H'
theorem qj2 (F:FunAt K mg "alone" ["load"] s_alone):Cal P w K mg base "alone" ["load"] 1 qfp:=by
 have S:=qgb
 refine F.cal qgb (fun vs H Q E h=>?_) (fun f cdv A outer s H vs Q E hr h=>?_)
 ·obtain ⟨b,ns,rfl,_⟩:=h; rfl
 obtain ⟨b,ns,rfl,hb,k⟩:=h
 refine ⟨_,(@pO _ _ _ (@qan _ _ _ _ (@qbb _ _ _ _ (@pC _ _ _ _ _ (@qaN _ _ _ _ _ (@pC _ _ _ _ _ (pv 0) (@pC _ _ _ _ _ (@qaN _ _ _ _ _ (@pC _ _ _ _ _ pI (@pC _ _ _ _ _ pI pN ⋯) ⋯)) pN ⋯) ⋯)) pN ⋯)))),?_⟩
 refine ⟨_,rfl,lz 2 rfl,fun t ht=>?_⟩
 have s1:=sN ht (.tup [.int 1,.int 1])
 refine ⟨lz 2 rfl,fun u hu=>?_⟩
 have s2:=sN hu (.tup [.ref b,.ref t])
 refine ⟨lz 1 rfl,fun l hl=>?_⟩
 have s3:=sN hl (.lst [.ref u])
 have s:=s1.trans (s2.trans s3)
 exact k l _ s (none_of (s1.trans s2) hl) ⟨[.ref u],uS,.cons ⟨u,b,.ref t,rfl,s3 _ _ uS,s _ _ hb,t,rfl,(s2.trans s3) _ _ uS⟩ .nil⟩
end
def dotZ (ts ns:List Int):Int:=(List.zipWith (· * ·) ts ns).sum
def mnF (rs:Spd)(ns:List Int):Rat:=Rat.divInt (dotZ (tpF (botF (rs.map (·.2))) (rs.map (·.2))) ns) (botF (rs.map (·.2)))
structure Mn (rs:Spd):Prop where
 sb:∀ r∈rs,SB 3000 r.2
 few:rs.length≤60
 sS:∃ S:Int,0 < S/\Bt 3000 S/\∀ r∈rs,(r.2.den:Int) ∣ S
theorem Mn.sQ {rs:Spd}(M:Mn rs):∃ S:Int,0 < S/\Bt 3000 S/\∀ q∈rs.map (·.2),(q.den:Int) ∣ S:=by
 obtain ⟨S,h1,h2,h3⟩:=M.sS
 exact ⟨S,h1,h2,fun q hq=>by obtain ⟨r,hr,rfl⟩:=List.mem_map.mp hq; exact h3 r hr⟩
theorem Mn.bB {rs:Spd}(M:Mn rs):Bt 3000 (botF (rs.map (·.2))):=by
 obtain ⟨S,h1,h2,h3⟩:=M.sQ
 have:=(qgq h1 h2 h3 (rs.map (·.2)).length).2
 rwa [List.take_length] at this
theorem Mn.b0 (rs:Spd):0 < botF (rs.map (·.2)):=by unfold botF; exact (qbN _ 1 (by decide)).1
theorem Mn.tp {rs:Spd}(M:Mn rs):∀ x∈tpF (botF (rs.map (·.2))) (rs.map (·.2)),Bt 20000 x:=by
 intro x hx
 obtain ⟨q,hq,rfl⟩:=List.mem_map.mp hx
 have sb:∀ q∈rs.map (·.2),SB 3000 q:=fun q hq=>by obtain ⟨r,hr,rfl⟩:=List.mem_map.mp hq; exact M.sb r hr
 have b1:=M.bB
 exact ((sb q hq).1.mul (b1.ediv (by have:=q.den_pos; omega))).mono (by decide)
section
variable {P:Program}{w:World}{K:PySem.W.Frag}{mg:Str->Option Value}{base:Heap}
def qf4:Sp:=fun vs H Q _=>∃ (l ln:Addr) (rs:Spd) (ns:List Int),vs=[.ref l,.ref ln]/\SpAt H l rs/\Mn rs/\H ln=some (.lst (iv ns))/\ns.length=rs.length/\(∀ x∈ns,Bt 20000 x)/\∀ v H',Same H H'->PrAt H' v (prq (mnF rs ns))->Q v H'
theorem qih (T:Txt2 mg)(C_weighed:Cal P w K mg base "weighed" ["some"] 2 qcN)(C_parted:Cal P w K mg base "parted" ["top", "bottoms"] 2 qca)(F:FunAt K mg "mean_of" ["spread", "numbers"] s_mean_of):Cal P w K mg base "mean_of" ["spread", "numbers"] 3 qf4:=by
 have S:=qdH
 refine F.cal qdH (fun vs H Q E h=>?_) (fun f cdv A outer s H vs Q E hr h=>?_)
 ·obtain ⟨l,ln,rs,ns,rfl,_⟩:=h; rfl
 obtain ⟨l,ln,rs,ns,rfl,⟨xs,hl,rws⟩,M,hn,nl,nb,k⟩:=h
 have xl:=Paired.length rws
 have few:=M.few
 refine ⟨_,(@pK _ _ _ _ _ (@qbH _ _ _ _ _ _ (@cc _ _ _ _ _ _ _ _ _ _ (by exact C_weighed) (by exact (hr.mono (by decide))) (@pC _ _ _ _ _ (@qaE _ _ _ _ _ _ _ _ _ _ _ _ _ ⋯ (by exact (fun _ _ h=>h)) (by decide +kernel) ⋯ (by decide +kernel) (by exact qaJ rfl) (by exact Sees.frees ["load", "part"] [] qaK) (@qaS _ _ _ _ (pv 0)) (fun _ _ _ _ _ => @qaY _ _ _ _ _ (2) ⋯ (@qab _ _ _ _ _ (@pG _ _ (0) _ (by exact (show (["load", "part"]:List Str).Nodup by decide +kernel)) ⋯ ⋯ ⋯) (@qab _ _ _ _ _ (@pG _ _ (1) _ (by exact (show (["load", "part"]:List Str).Nodup by decide +kernel)) ⋯ ⋯ ⋯) qas ⋯) ⋯) ⋯ ⋯) (fun _ _ _ _ _=>qaG) (fun _ _ _ _ _=>(pv 1)) ⋯) pN ⋯) ⋯ ⋯ ⋯ ⋯) (@qbs _ _ _ _ _ _ ⋯ (@qab _ _ _ _ _ (@pG _ _ (2) _ (by exact S.nd) ⋯ ⋯ ⋯) (@qab _ _ _ _ _ (@pG _ _ (3) _ (by exact S.nd) ⋯ ⋯ ⋯) qas ⋯) ⋯) ⋯ ⋯) ⋯ ⋯ ⋯) (@pO _ _ _ (@qan _ _ _ _ (@cc _ _ _ _ _ _ _ _ _ _ (by exact C_parted) (by exact (hr.mono (by decide))) (@pC _ _ _ _ _ (@qag _ _ _ _ _ _ _ _ _ (qgL ⋯) ⋯ (by exact T.z_sum) (by exact qe8) (@pC _ _ _ _ _ (@qaE _ _ _ _ _ _ _ _ _ _ _ _ _ ⋯ (by exact (fun _ _ h=>h)) (by decide +kernel) ⋯ (by decide +kernel) (by exact qaJ rfl) (by exact Sees.frees ["top", "number"] [] qaK) (@qh4 _ _ _ _ _ _ _ _ _ ⋯ (by exact T.z_zip) (@pC _ _ _ _ _ (pv 2) (@pC _ _ _ _ _ (pv 1) pN ⋯) ⋯) ⋯ ⋯) (fun _ _ _ _ _ => @qaY _ _ _ _ _ (2) ⋯ (@qab _ _ _ _ _ (@pG _ _ (0) _ (by exact (show (["top", "number"]:List Str).Nodup by decide +kernel)) ⋯ ⋯ ⋯) (@qab _ _ _ _ _ (@pG _ _ (1) _ (by exact (show (["top", "number"]:List Str).Nodup by decide +kernel)) ⋯ ⋯ ⋯) qas ⋯) ⋯) ⋯ ⋯) (fun _ _ _ _ _=>qaG) (fun _ _ _ _ _=>(@pP _ _ _ _ _ _ _ _ qbx (pv 0) (pv 1))) ⋯) pN ⋯) ⋯ ⋯ ⋯ ⋯) (@pC _ _ _ _ _ (@qbb _ _ _ _ (@pC _ _ _ _ _ (pv 3) pN ⋯)) pN ⋯) ⋯) ⋯ ⋯ ⋯ ⋯)))),?_⟩
 refine ⟨_,rfl,l,rfl,⟨_,SqL.of hl⟩,qb0 (qaU (xs:=xs)) (fun p i ys σ' H'=>Same H H'/\(∃ o1 o2,σ'=[o1,o2])/\ys.length=i/\Shs H' ys ((rs.take i).map (·.2))) (by omega) ?_ ?_ ?_ ?_⟩
 ·intro p hp
  exact ⟨sN hp _,⟨_,_,rfl⟩,rfl,.nil⟩
 ·rintro p i ys σ' H' hp ⟨s',_⟩
  exact s' _ _ hl
 ·rintro p i ys σ' H' x H'' hp hi hl' ⟨s',⟨o1,o2,rfl⟩,yl,sh⟩ hp' ⟨rfl,hx⟩ Q1 Q2 h1 h2
  obtain ⟨r,hri,a,b,v2,rfl,ha,hb,hv⟩:=qaz rws hx
  refine ⟨a,_,rfl,s' _ _ ha,rfl,_,_,rfl,_,_,rfl,rfl,?_⟩
  refine tT_ (iteT ⟨_,rfl,h1 _ _ _ hp' ⟨qao hp s' _,⟨_,_,rfl⟩,by simp [yl],?_⟩⟩)
  rw [take_snoc hri,List.map_append]
  exact Shs.snoc (qeB hp' (hv.same s')) (Shs.updL hp' sh)
 ·rintro p ys σ' H' hp ⟨s',_,yl,sh⟩ hp' hl'
  rw [xl,List.take_length] at sh
  refine ⟨p,ys,rs.map (·.2),rfl,hp',sh,fun q hq=>?_,M.sQ,(by simp; omega),fun t c H2 s2 ht hc=>?_⟩
  ·obtain ⟨r,hr',rfl⟩:=List.mem_map.mp hq
   exact M.sb r hr'
  refine ⟨t,_,rfl,SqT.of ht,rfl,_,_,rfl,_,_,rfl,rfl,?_⟩
  have sA:=s'.trans s2
  change H2 c=some (.lst (iv (tpF (botF (rs.map (·.2))) (rs.map (·.2))))) at hc
  have hT:=M.tp
  have b0:=Mn.b0 rs
  have b1:=M.bB
  have tl:(tpF (botF (rs.map (·.2))) (rs.map (·.2))).length=rs.length:=by simp [tpF]
  show _
  unfold mnF at k
  change ∀ v H',_ at k
  have hn2:=sA _ _ hn
  refine ⟨_,rfl,_,rfl,c,ln,rfl,⟨_,SqL.of hc⟩,⟨_,SqL.of hn2⟩,qb0 (qdw (xs:=iv (tpF (botF (rs.map (·.2))) (rs.map (·.2)))) (ys:=iv ns) (by simp [tl,nl])) (fun p i ys σ' H'=>Same H2 H'/\(∃ o1 o2,σ'=[o1,o2])/\ys=iv ((List.zipWith (· * ·) (tpF (botF (rs.map (·.2))) (rs.map (·.2))) ns).take i)) (by simp [tl]; omega) ?_ ?_ ?_ ?_⟩
  ·exact fun p hp=>⟨sN hp _,⟨_,_,rfl⟩,rfl⟩
  ·rintro p i ys σ' H' hp ⟨s3,_⟩
   exact ⟨s3 _ _ hc,s3 _ _ hn2⟩
  ·rintro p i ys σ' H3 x H4 hp hi hl' ⟨s3,⟨o1,o2,rfl⟩,rfl⟩ hp' ⟨q,y,z,rfl,hq,rfl,hy,hz⟩ Q1 Q2 h1 h2
   rw [List.getElem?_map,Option.map_eq_some_iff] at hy hz
   obtain ⟨ti,hti,rfl⟩:=hy
   obtain ⟨ni,hni,rfl⟩:=hz
   have s4:=sN hq (.tup [.int ti,.int ni])
   refine ⟨q,_,rfl,uS,rfl,_,_,rfl,_,_,rfl,rfl,?_⟩
   refine tT_ (iteT ⟨_,rfl,_,rfl,_,_,rfl,rfl,⟨hT _ (List.mem_of_getElem? hti),nb _ (List.mem_of_getElem? hni)⟩,h1 _ _ _ (s4 _ _ hp') ⟨qao hp (s3.trans s4) _,⟨_,_,rfl⟩,?_⟩⟩)
   rw [take_snoc (x:=ti * ni) (by rw [List.getElem?_zipWith,hti,hni])]
   show _=List.map V.int _
   rw [List.map_append]
   first | done | rfl
  ·rintro p2 ys2 σ2 H3 hp2 ⟨s3,_,rfl⟩ hp2' hl2
   rw [List.take_of_length_le (by simp [tl,nl])] at hp2'
   refine ⟨p2,_,rfl,SqL.of hp2',?_⟩
   refine ⟨_,rfl,lz 1 rfl,fun l4 hl4=>?_⟩
   have s4:=sN hl4 (.lst [.int (botF (rs.map (·.2)))])
   refine ⟨_,l4,[botF (rs.map (·.2))],rfl,uS,fun b hb=>by simp at hb; subst hb; exact ⟨b0,b1.mono (by decide),.inr rfl⟩,fun v H5 s5 pv=>?_⟩
   rw [qeg 1 _ rfl (fun b hb=>by simp at hb; subst hb; exact b0),List.prod_cons,List.prod_nil,Int.mul_one] at pv
   exact k v H5 (sA.trans (s3.trans (s4.trans s5))) pv
end
def LdR (rs:Spd):Prop:=∀ r∈rs,r.1≠[]/\r.1.length≤6/\∀ x∈r.1,0≤x/\x≤40
def gBox (m:Int)(l:List Int):Int:=((l.filter fun x=>decide (m≤x)).length:Nat)
def qa7 (m b:Int)(l:List Int):Int:=if b≤gBox m l then 1 else 0
def nmF (g:List Int->Int)(rs:Spd):List Int:=rs.map fun r=>g r.1
theorem qkT (g:List Int->Int)(rs:Spd):(nmF g rs).length=rs.length:=by simp [nmF]
theorem qlP {g:List Int->Int}{rs:Spd}{i:Nat}{r:List Int × Rat}(h:rs[i]?=some r):iv ((nmF g rs).take (i + 1))=iv ((nmF g rs).take i) ++ [.int (g r.1)]:=by
 rw [take_snoc (x:=g r.1) (by unfold nmF; rw [List.getElem?_map,h]; rfl)]
 show List.map V.int _=_
 rw [List.map_append]; rfl
theorem qkx {x:Int}(h:-100000≤x/\x≤100000):Bt 20000 x:=(Bt.of_lt (n:=20) (Nat.lt_of_le_of_lt (show x.natAbs≤100000 by omega) (by decide))).mono (by decide)
theorem qfO {m b:Int}{l:List Int}:-100000≤qa7 m b l/\qa7 m b l≤100000:=by unfold qa7; split <;> decide
theorem gN_ {i:Nat}{v:V}{σ:St}{H:Hp}{Q:St->Hp->Prop}(h:Q (σ.set i (some v)) H):qcK i v σ H Q:=h
section
variable {P:Program}{w:World}{K:PySem.W.Frag}{mg:Str->Option Value}{base:Heap}
def spMn (g:List Int->Int)(rest:List V):Sp:=fun vs H Q _=>∃ (l:Addr) (rs:Spd),vs = .ref l :: rest/\SpAt H l rs/\Mn rs/\LdR rs/\∀ v H',Same H H'->PrAt H' v (prq (mnF rs (nmF g rs)))->Q v H'
def qmv:Sp:=fun vs H Q _=>∃ (b:Addr) (l:List Int) (m:Int),vs=[.ref b,.int m]/\H b=some (.tup (iv l))/\l.length≤6/\∀ H',Same H H'->Q (.int (gBox m l)) H'
theorem qmK (T:Txt2 mg)(F:FunAt K mg "boxes_with" ["load", "m"] s_boxes_with):Cal P w K mg base "boxes_with" ["load", "m"] 1 qmv:=by
 have S:=qce
 refine F.cal qce (fun vs H Q E h=>?_) (fun f cdv A outer s H vs Q E hr h=>?_)
 ·obtain ⟨b,l,m,rfl,_⟩:=h; rfl
 obtain ⟨b,l,m,rfl,hb,l6,k⟩:=h
 refine ⟨_,(@pO _ _ _ (@qan _ _ _ _ (@qag _ _ _ _ _ _ _ _ _ qai ⋯ (by exact T.z_len) (by exact qa4) (@pC _ _ _ _ _ (@qaE _ _ _ _ _ _ _ _ _ _ _ _ _ ⋯ (by exact (fun _ _ h=>h)) (by decide +kernel) ⋯ (by decide +kernel) (by exact qaJ rfl) (by exact Sees.frees ["number"] [("m",1)] (qal ⟨rfl,rfl⟩ qaK)) (@qkQ _ _ _ _ (pv 0)) (fun _ _ _ _ _ => @pG _ _ (0) _ (by exact (show (["number", "m"]:List Str).Nodup by decide +kernel)) ⋯ ⋯ ⋯) (fun _ _ _ _ _=>(@qcq _ _ _ (@qaL _ _ _ _ _ _ _ _ qg3 (pv 0) (pv 1) (by exact (qaO _))))) (fun _ _ _ _ _=>(pv 0)) ⋯) pN ⋯) ⋯ ⋯ ⋯ ⋯))),?_⟩
 refine ⟨_,rfl,b,rfl,⟨_,SqT.of hb⟩,qb0 (qdx (xs:=iv l)) (fun p i ys σ' H'=>Same H H'/\(∃ o1,σ'=[o1,some (.int m)])/\ys=iv ((l.take i).filter fun x=>decide (m≤x))) (by simp; omega) ?_ ?_ ?_ ?_⟩
 ·exact fun p hp=>⟨sN hp _,⟨_,rfl⟩,rfl⟩
 ·rintro p i ys σ' H' hp ⟨s',_⟩
  exact s' _ _ hb
 ·rintro p i ys σ' H' x H'' hp hi hl' ⟨s',⟨o1,rfl⟩,rfl⟩ hp' ⟨rfl,hx⟩ Q1 Q2 h1 h2
  rw [List.getElem?_map,Option.map_eq_some_iff] at hx
  obtain ⟨n,hn,rfl⟩:=hx
  refine gN_ ⟨_,rfl,_,rfl,_,_,rfl,rfl,_,rfl,?_⟩
  have e:=take_snoc hn
  refine ite2 (fun c=>?_) (fun c=>?_)
  ·have c':m≤n:=of_decide_eq_true c
   refine ⟨_,rfl,h1 _ _ _ hp' ⟨qao hp s' _,⟨_,rfl⟩,?_⟩⟩
   rw [e,List.filter_append]
   show _=List.map V.int _
   rw [List.map_append]
   simp [c']
  ·have c':¬ m≤n:=fun z=>c (decide_eq_true z)
   refine h2 _ _ hp' ⟨s',⟨_,rfl⟩,?_⟩
   rw [e,List.filter_append]
   simp [c']
 ·rintro p ys σ' H' hp ⟨s',_,rfl⟩ hp' hl'
  rw [List.take_of_length_le (by simp)] at hp'
  have:=k _ s'
  refine ⟨p,_,rfl,.inl (SqL.of hp'),?_⟩
  unfold gBox at this
  simpa using this
def qkL:Sp:=fun vs H Q E=>∃ m b:Int,spMn (qa7 m b) [.int m,.int b] vs H Q E
theorem qlK (T:Txt2 mg)(C_boxes_with:Cal P w K mg base "boxes_with" ["load", "m"] 1 qmv)(C_mean_of:Cal P w K mg base "mean_of" ["spread", "numbers"] 3 qf4)(F:FunAt K mg "many_share" ["spread", "m", "b"] s_many_share):Cal P w K mg base "many_share" ["spread", "m", "b"] 4 qkL:=by
 have S:=qcd
 refine F.cal qcd (fun vs H Q E h=>?_) (fun f cdv A outer s H vs Q E hr h=>?_)
 ·obtain ⟨m,b,l,rs,rfl,_⟩:=h; rfl
 obtain ⟨m,bb,l,rs,rfl,spl,M,LR,k⟩:=h
 obtain ⟨xs,hl,rws⟩:=id spl
 have xl:=Paired.length rws
 have few:=M.few
 refine ⟨_,(@pO _ _ _ (@qan _ _ _ _ (@cc _ _ _ _ _ _ _ _ _ _ (by exact C_mean_of) (by exact (hr.mono (by decide))) (@pC _ _ _ _ _ (pv 0) (@pC _ _ _ _ _ (@qaE _ _ _ _ _ _ _ _ _ _ _ _ _ ⋯ (by exact (fun _ _ h=>h)) (by decide +kernel) ⋯ (by decide +kernel) (by exact qaJ rfl) (by exact Sees.frees ["load", "part"] [("m",1),("b",2)] (qal ⟨rfl,rfl⟩ (qal ⟨rfl,rfl⟩ qaK))) (@qaS _ _ _ _ (pv 0)) (fun _ _ _ _ _ => @qaY _ _ _ _ _ (2) ⋯ (@qab _ _ _ _ _ (@pG _ _ (0) _ (by exact (show (["load", "part", "m", "b"]:List Str).Nodup by decide +kernel)) ⋯ ⋯ ⋯) (@qab _ _ _ _ _ (@pG _ _ (1) _ (by exact (show (["load", "part", "m", "b"]:List Str).Nodup by decide +kernel)) ⋯ ⋯ ⋯) qas ⋯) ⋯) ⋯ ⋯) (fun _ _ _ _ _=>qaG) (fun _ _ _ _ _=>(@qaB _ _ _ _ _ _ _ _ _ qdn ⋯ (by exact T.z_int) (by exact qjd) (@pC _ _ _ _ _ (@qct _ _ _ _ _ _ _ _ qg3 (@cc _ _ _ _ _ _ _ _ _ _ (by exact C_boxes_with) (by exact (hr.mono (by decide))) (@pC _ _ _ _ _ (pv 0) (@pC _ _ _ _ _ (pv 2) pN ⋯) ⋯) ⋯ ⋯ ⋯ ⋯) (pv 3) (by exact (qaO _))) pN ⋯) ⋯ ⋯ ⋯ ⋯)) ⋯) pN ⋯) ⋯) ⋯ ⋯ ⋯ ⋯))),?_⟩
 refine ⟨_,rfl,_,rfl,l,rfl,⟨_,SqL.of hl⟩,qb0 (qaU (xs:=xs)) (fun p i ys σ' H'=>Same H H'/\(∃ o1 o2,σ'=[o1,o2,some (.int m),some (.int bb)])/\ys=iv ((nmF (qa7 m bb) rs).take i)) (by omega) ?_ ?_ ?_ ?_⟩
 ·exact fun p hp=>⟨sN hp _,⟨_,_,rfl⟩,rfl⟩
 ·rintro p i ys σ' H' hp ⟨s',_⟩
  exact s' _ _ hl
 ·rintro p i ys σ' H' x' H'' hp hi hl' ⟨s',⟨o1,o2,rfl⟩,rfl⟩ hp' ⟨rfl,hx'⟩ Q1 Q2 h1 h2
  obtain ⟨r,hri,a,b,v2,rfl,ha,hb,hv⟩:=qaz rws hx'
  obtain ⟨r1,r2,r3⟩:=LR r (List.mem_of_getElem? hri)
  refine ⟨a,_,rfl,s' _ _ ha,rfl,_,_,rfl,_,_,rfl,rfl,?_⟩
  refine tT_ (iteT ⟨_,rfl,_,rfl,b,r.1,m,rfl,s' _ _ hb,r2,fun H5 s5=>⟨_,rfl,_,_,rfl,rfl,.inr ⟨_,rfl,h1 _ _ _ (s5 _ _ hp') ⟨qao hp (s'.trans s5) _,⟨_,_,rfl⟩,?_⟩⟩⟩⟩)
  rw [qlP hri]
  unfold qa7
  by_cases z:bb≤gBox m r.1
  ·rw [if_pos z,if_pos (decide_eq_true z)]
  ·rw [if_neg z,if_neg (fun q=>z (of_decide_eq_true q))]
 ·rintro p ys σ' H' hp ⟨s',_,rfl⟩ hp' hl'
  rw [List.take_of_length_le (by rw [qkT]; omega)] at hp'
  exact ⟨l,p,rs,nmF (qa7 m bb) rs,rfl,spl.same s',M,hp',qkT _ _,fun y hy=>by obtain ⟨r,hr',rfl⟩:=List.mem_map.mp hy; exact qkx qfO,fun v H5 s5 pv=>k v H5 (s'.trans s5) pv⟩
def qfo:Sp:=fun vs H Q E=>∃ m:Int,spMn (qa7 m 1) [.int m] vs H Q E
theorem qjZ (C_many_share:Cal P w K mg base "many_share" ["spread", "m", "b"] 4 qkL)(F:FunAt K mg "fullest_share" ["spread", "m"] s_fullest_share):Cal P w K mg base "fullest_share" ["spread", "m"] 5 qfo:=by
 have S:=qbG
 refine F.cal qbG (fun vs H Q E h=>?_) (fun f cdv A outer s H vs Q E hr h=>?_)
 ·obtain ⟨m,l,rs,rfl,_⟩:=h; rfl
 obtain ⟨m,l,rs,rfl,spl,M,LR,k⟩:=h
 refine ⟨_,(@pO _ _ _ (@qan _ _ _ _ (@cc _ _ _ _ _ _ _ _ _ _ (by exact C_many_share) (by exact (hr.mono (by decide))) (@pC _ _ _ _ _ (pv 0) (@pC _ _ _ _ _ (pv 1) (@pC _ _ _ _ _ pI pN ⋯) ⋯) ⋯) ⋯ ⋯ ⋯ ⋯))),?_⟩
 exact ⟨_,rfl,_,rfl,m,1,l,rs,rfl,spl,M,LR,k⟩
end
end My
namespace My
open PySem L2 MA
def cfN (t u:Int)(c:List Int):List Int:=List.zipWith (fun f s=>f * t + s * u) (0 :: c) (c ++ [0])
def cf (t u:Int):Nat->List Int
 | 0=>[1]
 | n + 1=>cfN t u (cf t u n)
theorem qhg {t u:Int}{c:List Int}:(cfN t u c).length=c.length + 1:=by unfold cfN; simp
theorem qdm {t u:Int}:∀ n,(cf t u n).length=n + 1
 | 0=>rfl
 | n + 1=>by show (cfN t u (cf t u n)).length=_; rw [qhg,qdm n]
theorem qhD {t u:Int}:∀ {A B:List Int},A.length=B.length->(List.zipWith (fun f s=>f * t + s * u) A B).sum=A.sum * t + B.sum * u
 | [],[],_=>by simp
 | a :: A,b :: B,h=>by
  have:=qhD (t:=t) (u:=u) (A:=A) (B:=B) (by simpa using h)
  simp only [List.zipWith_cons_cons,List.sum_cons,this]
  grind
theorem qhG (c:List Int)(j:Nat):((c ++ [0]).drop j).sum=(c.drop j).sum:=by
 rw [List.drop_append,List.sum_append]
 have:([0]:List Int).drop (j - c.length)=[0]\/([0]:List Int).drop (j - c.length)=[]:=by
  rcases j - c.length with _ | m
  ·exact .inl rfl
  ·exact .inr (by simp)
 rcases this with h | h <;> rw [h] <;> simp
theorem qgJ {t u:Int}(c:List Int)(j:Nat):((cfN t u c).drop j).sum=((0 :: c).drop j).sum * t + (c.drop j).sum * u:=by
 unfold cfN
 rw [List.drop_zipWith,qhD,qhG]
 simp
theorem qi6 {t u:Int}:∀ n,(cf t u n).sum=(t + u) ^ n
 | 0=>by rw [Int.pow_zero]; rfl
 | n + 1=>by
  have h:=qgJ (t:=t) (u:=u) (cf t u n) 0
  simp only [List.drop_zero,List.sum_cons,qi6 n] at h
  show (cfN t u (cf t u n)).sum=_
  rw [h,Int.pow_succ]
  grind
theorem qm8 {t u:Int}(ht:0≤t)(hu:0≤u){c:List Int}(h:∀ x∈c,0≤x):∀ x∈cfN t u c,0≤x:=fun x hx=>by
 unfold cfN at hx
 obtain ⟨i,hi,rfl⟩:=List.mem_iff_getElem.mp hx
 rw [List.getElem_zipWith]
 have h1:∀ y∈(0 :: c),0≤y:=fun y hy=>by
  rcases List.mem_cons.mp hy with rfl | hy
  ·omega
  ·exact h y hy
 have h2:∀ y∈(c ++ [0]),0≤y:=fun y hy=>by
  rcases List.mem_append.mp hy with hy | hy
  ·exact h y hy
  ·rw [List.mem_singleton.mp hy]; omega
 have a:=Int.mul_nonneg (h1 _ (List.getElem_mem (by simp at hi ⊢; omega))) ht
 have b:=Int.mul_nonneg (h2 _ (List.getElem_mem (by simp at hi ⊢; omega))) hu
 exact Int.add_nonneg a b
theorem qkw {t u:Int}(ht:0≤t)(hu:0≤u):∀ n,∀ x∈cf t u n,0≤x
 | 0,x,hx=>by rw [List.mem_singleton.mp hx]; decide
 | n + 1,x,hx=>qm8 ht hu (qkw ht hu n) x hx
theorem qhE:∀ {c:List Int},(∀ x∈c,0≤x)->0≤c.sum
 | [],_=>by simp
 | x :: c,h=>by
  have:=qhE fun y hy=>h y (List.mem_cons_of_mem x hy)
  have:=h x List.mem_cons_self
  simp only [List.sum_cons]; omega
def tl (t u:Int)(n:Nat)(b:Int):Int:=((cf t u n).drop b.toNat).sum
theorem qlc {t u:Int}(ht:0≤t)(hu:0≤u)(n:Nat)(b:Int):0≤tl t u n b:=qhE fun x hx=>qkw ht hu n x (List.mem_of_mem_drop hx)
theorem tl_le {t u:Int}{n:Nat}{b:Int}(h:b≤0):tl t u n b=(t + u) ^ n:=by
 unfold tl
 rw [show b.toNat=0 by omega,List.drop_zero,qi6]
theorem qlb {t u:Int}{n:Nat}{b:Int}:tl t u (n + 1) b=tl t u n (b - 1) * t + tl t u n b * u:=by
 show ((cfN t u (cf t u n)).drop b.toNat).sum=_
 rw [qgJ]
 unfold tl
 rcases h:b.toNat with _ | j
 ·rw [show (b - 1).toNat=0 by omega]
  simp
 ·rw [show (b - 1).toNat=j by omega]
  rfl
theorem qiM (a b:Nat):gI (a:Int) (b:Int)=(Nat.gcd a b:Int):=by unfold gI; first | rfl | simp
theorem qfJ (a b:Nat):lowF (a:Int) (b:Int)=(((a / Nat.gcd a b:Nat):Int),((b / Nat.gcd a b:Nat):Int)):=by
 unfold lowF; rw [qiM,<- Int.natCast_ediv,<- Int.natCast_ediv]
theorem qkb {a P x:Nat}(hP:0 < P)(hx:0 < x) :
  ((a / Nat.gcd a P) / Nat.gcd (a / Nat.gcd a P) x,(P / Nat.gcd a P) * (x / Nat.gcd (a / Nat.gcd a P) x))=(a / Nat.gcd a (P * x),P * x / Nat.gcd a (P * x)):=by
 have d0:0 < Nat.gcd a P:=Nat.gcd_pos_of_pos_right _ hP
 obtain ⟨s1,h1⟩:=Nat.gcd_dvd_left a P
 obtain ⟨s2,h2⟩:=Nat.gcd_dvd_right a P
 have cop:Nat.Coprime (a / Nat.gcd a P) (P / Nat.gcd a P):=Nat.coprime_div_gcd_div_gcd d0
 generalize hd:Nat.gcd a P=d at *
 have e1:a / d=s1:=by rw [h1]; exact Nat.mul_div_cancel_left _ d0
 have e2:P / d=s2:=by rw [h2]; exact Nat.mul_div_cancel_left _ d0
 rw [e1,e2] at cop ⊢
 have g0:0 < Nat.gcd s1 x:=Nat.gcd_pos_of_pos_right _ hx
 have eG:Nat.gcd a (P * x)=d * Nat.gcd s1 x:=by
  rw [h1,h2,Nat.mul_assoc,Nat.gcd_mul_left,Nat.Coprime.gcd_mul_left_cancel_right _ cop.symm]
 rw [eG]
 obtain ⟨k,hk⟩:=Nat.gcd_dvd_right s1 x
 refine Prod.ext ?_ ?_
 ·show s1 / _=a / _
  rw [<- Nat.div_div_eq_div_mul,e1]
 ·show s2 * (x / _)=P * x / _
  rw [<- Nat.div_div_eq_div_mul,Nat.mul_comm P x,Nat.mul_div_assoc x (show d ∣ P from ⟨s2,h2⟩),e2]
  generalize hg:Nat.gcd s1 x=g at *
  rw [hk,Nat.mul_div_cancel_left _ g0,Nat.mul_assoc,Nat.mul_div_cancel_left _ g0,Nat.mul_comm]
theorem qdL {t b:Nat}(hb:0 < b):∀ n,qat (t:Int) (List.replicate n (b:Int))=lowF (t:Int) ((b ^ n:Nat):Int)
 | 0=>by rw [qfJ]; simp [qat]
 | n + 1=>by
  have ih:=qdL (t:=t) hb n
  have e:=qcF (t:=(t:Int)) (bs:=List.replicate (n + 1) (b:Int)) (i:=n) (b:=(b:Int)) (by simp)
  rw [List.take_of_length_le (by simp),List.take_replicate,Nat.min_eq_left (by omega),ih,qfJ] at e
  rw [e,qfJ,Nat.pow_succ]
  have h:=qkb (a:=t) (P:=b ^ n) (x:=b) (Nat.pow_pos hb) hb
  rw [Prod.mk.injEq] at h
  dsimp only
  rw [qiM,<- Int.natCast_ediv,<- Int.natCast_ediv,<- Int.natCast_mul,h.1,h.2]
section
variable {P:Program}{w:World}{K:PySem.W.Frag}{mg:Str->Option Value}{base:Heap}
def spTT:Sp:=fun vs H Q _=>∃ (n:Nat) (t b:Int),vs=[.int n,.int t,.int b]/\n≤100/\0≤t/\t≤b/\b < 1000000/\∀ l H',Same H H'->H' l=some (.lst ((List.range (n + 1)).map fun (j:Nat)=>V.int ((cf t (b - t) n).drop j).sum))->Q (.ref l) H'
theorem cat0 (c:List Int):([V.int 0] ++ c.map V.int)=(0 :: c).map V.int:=rfl
theorem cat1 (c:List Int):(c.map V.int ++ [V.int 0])=(c ++ [0]).map V.int:=by simp
theorem qhl (t u:Int):∀ (A B:List Int),List.zipWith (fun x y=>match x,y with | V.int x,V.int y=>V.int (x * t + y * u) | _,_=>V.non) (A.map V.int) (B.map V.int)=(List.zipWith (fun f s=>f * t + s * u) A B).map V.int
 | [],_=>by simp
 | _ :: _,[]=>by simp
 | a :: A,b :: B=>by simp only [List.map_cons,List.zipWith_cons_cons,qhl t u A B]
theorem qks (c:List Int)(i:Nat):cutV (c.map V.int) (some (0 + (i:Int))) none=(c.drop i).map V.int:=by
 have e:HT.sIx (c.map V.int).length 0 (some (0 + (i:Int)))=min i c.length:=by
  rw [List.length_map]; simp only [HT.sIx]; first | omega | (split <;> omega)
 have e2:HT.sIx (c.map V.int).length (c.map V.int).length none=c.length:=by rw [List.length_map]; rfl
 unfold cutV
 rw [e,e2,<- List.map_drop,<- List.map_take]
 rcases Nat.le_total i c.length with h | h
 ·rw [Nat.min_eq_left h,List.take_of_length_le (by rw [List.length_drop]; omega)]
 ·rw [Nat.min_eq_right h,List.drop_of_length_le (Nat.le_refl _),List.drop_of_length_le h]; simp
theorem qlG (T:Txt2 mg)(F:FunAt K mg "tail_tops" ["tries", "top", "bottom"] s_tail_tops):Cal P w K mg base "tail_tops" ["tries", "top", "bottom"] 1 spTT:=by
 have S:=qcB
 refine F.cal qcB (fun vs H Q E h=>?_) (fun f cdv A outer s H vs Q E hr h=>?_)
 ·obtain ⟨n,t,b,rfl,_⟩:=h; rfl
 obtain ⟨n,t,b,rfl,hn,t0,tb,b1,k⟩:=h
 refine ⟨_,(@pK _ _ _ _ _ (@pZ _ _ (3) _ _ _ _ (by exact S.nd) ⋯ ⋯ (@qbb _ _ _ _ (@pC _ _ _ _ _ pI pN ⋯)) ⋯ ⋯) (@pK _ _ _ _ _ (@qbj _ _ _ _ _ _ _ _ (by exact PassesOwn.never) ⋯ (@qaA _ _ _ _ _ _ ⋯ (by exact T.z_range) (@pC _ _ _ _ _ (pv 0) pN ⋯) ⋯) (@pG _ _ (4) _ (by exact S.nd) ⋯ ⋯ ⋯) (@pO _ _ _ (@pZ _ _ (3) _ _ _ _ (by exact S.nd) ⋯ ⋯ (@qaE _ _ _ _ _ _ _ _ _ _ _ _ _ ⋯ (by exact (fun _ _ h=>h)) (by decide +kernel) ⋯ (by decide +kernel) (by exact qaJ rfl) (by exact Sees.frees ["fewer", "same"] [("top",1),("bottom",2)] (qal ⟨rfl,rfl⟩ (qal ⟨rfl,rfl⟩ qaK))) (@qh4 _ _ _ _ _ _ _ _ _ ⋯ (by exact T.z_zip) (@pC _ _ _ _ _ (@pP _ _ _ _ _ _ _ _ qeL (@qbb _ _ _ _ (@pC _ _ _ _ _ pI pN ⋯)) (pv 3)) (@pC _ _ _ _ _ (@pP _ _ _ _ _ _ _ _ qeL (pv 3) (@qbb _ _ _ _ (@pC _ _ _ _ _ pI pN ⋯))) pN ⋯) ⋯) ⋯ ⋯) (fun _ _ _ _ _ => @qaY _ _ _ _ _ (2) ⋯ (@qab _ _ _ _ _ (@pG _ _ (0) _ (by exact (show (["fewer", "same", "top", "bottom"]:List Str).Nodup by decide +kernel)) ⋯ ⋯ ⋯) (@qab _ _ _ _ _ (@pG _ _ (1) _ (by exact (show (["fewer", "same", "top", "bottom"]:List Str).Nodup by decide +kernel)) ⋯ ⋯ ⋯) qas ⋯) ⋯) ⋯ ⋯) (fun _ _ _ _ _=>qaG) (fun _ _ _ _ _=>(@pP _ _ _ _ _ _ _ _ qaF (@pP _ _ _ _ _ _ _ _ qbf (pv 0) (pv 2)) (@pP _ _ _ _ _ _ _ _ qbf (pv 1) (@pP _ _ _ _ _ _ _ _ qch (pv 3) (pv 2))))) ⋯) ⋯ ⋯)) ⋯) (@pO _ _ _ (@qan _ _ _ _ (@qaE _ _ _ _ _ _ _ _ _ _ _ _ _ ⋯ (by exact (fun _ _ h=>h)) (by decide +kernel) ⋯ (by decide +kernel) (by exact qaJ rfl) (by exact Sees.frees ["b"] [("coming",3)] (qal ⟨rfl,rfl⟩ qaK)) (@qaA _ _ _ _ _ _ ⋯ (by exact T.z_range) (@pC _ _ _ _ _ (@pP _ _ _ _ _ _ _ _ qaF (pv 0) pI) pN ⋯) ⋯) (fun _ _ _ _ _ => @pG _ _ (0) _ (by exact (show (["b", "coming"]:List Str).Nodup by decide +kernel)) ⋯ ⋯ ⋯) (fun _ _ _ _ _=>qaG) (fun _ _ _ _ _=>(@qag _ _ _ _ _ _ _ _ _ (qcn ⋯) ⋯ (by exact T.z_sum) (by exact qe8) (@pC _ _ _ _ _ (@qcg _ _ _ _ _ _ _ _ _ _ qf7 (pv 1) (@qcs _ _ _ (pv 0)) qdc) pN ⋯) ⋯ ⋯ ⋯ ⋯)) ⋯))))),?_⟩
 refine ⟨lz 1 rfl,fun l0 hl0=>?_⟩
 refine ⟨_,rfl,_,rfl,by omega,by omega,qck (n:=n) (fun i σ H'=>Same H H'/\∃ l o,σ=[some (.int n),some (.int t),some (.int b),some (.ref l),o]/\H' l=some (.lst ((cf t (b - t) i).map V.int))) ⟨sN hl0 _,_,_,rfl,uS⟩ ?_ ?_⟩
 ·rintro i σ H2 hi ⟨s2,l,o,rfl,hl⟩
  have lc:=qdm (t:=t) (u:=b - t) i
  refine ⟨lz 1 rfl,fun p0 hp0=>⟨_,rfl,p0,l,_,_,rfl,rfl,uS,sN hp0 _ _ _ hl,(by rw [List.length_map,lc,sizeLine_eq]; show 1 + _≤_; omega),fun p1 hp1=>?_⟩⟩
  rw [cat0]
  have s3:=sN hp0 (.lst [.int 0])
  have s4:=sN hp1 (.lst ((0 :: cf t (b - t) i).map V.int))
  have e4:(upd (upd H2 p0 (.lst [.int 0])) p1 (.lst ((0 :: cf t (b - t) i).map V.int))) p1=some (.lst ((0 :: cf t (b - t) i).map V.int)):=uS
  have l4:=s4 _ _ (s3 _ _ hl)
  have s24:=s2.trans (s3.trans s4)
  generalize upd (upd H2 p0 (.lst [.int 0])) p1 (.lst ((0 :: cf t (b - t) i).map V.int))=H4 at e4 l4 s24
  refine ⟨_,rfl,lz 1 rfl,fun p2 hp2=>⟨l,p2,_,_,rfl,rfl,sN hp2 _ _ _ l4,uS,(by rw [List.length_map,lc,sizeLine_eq]; show _ + 1≤_; omega),fun p3 hp3=>?_⟩⟩
  rw [cat1]
  have s5:=sN hp2 (.lst [.int 0])
  have s6:=sN hp3 (.lst ((cf t (b - t) i ++ [0]).map V.int))
  have e6:(upd (upd H4 p2 (.lst [.int 0])) p3 (.lst ((cf t (b - t) i ++ [0]).map V.int))) p3=some (.lst ((cf t (b - t) i ++ [0]).map V.int)):=uS
  have e6':=s6 _ _ (s5 _ _ e4)
  have s46:=s24.trans (s5.trans s6)
  generalize upd (upd H4 p2 (.lst [.int 0])) p3 (.lst ((cf t (b - t) i ++ [0]).map V.int))=H6 at e6 e6' s46
  refine ⟨p1,p3,rfl,⟨_,SqL.of e6'⟩,⟨_,SqL.of e6⟩,qkt (fs:=[some (.int t),some (.int b)]) (fun x y=>match x,y with | .int x,.int y => .int (x * t + y * (b - t)) | _,_ => .non) e6' e6 (by simp) (by simp; omega) ?_ ?_⟩
  ·intro j x y hx hy H7 Q' s7 hQ
   rw [List.getElem?_map] at hx hy
   cases hx1:(0 :: cf t (b - t) i)[j]? with
   | none=>rw [hx1] at hx; cases hx
   | some x1 =>
    cases hy1:(cf t (b - t) i ++ [0])[j]? with
    | none=>rw [hy1] at hy; cases hy
    | some y1 =>
     rw [hx1] at hx
     rw [hy1] at hy
     cases hx
     cases hy
     refine ⟨_,rfl,_,rfl,_,_,rfl,rfl,.inr ⟨by omega,by omega⟩,_,rfl,_,rfl,_,rfl,_,_,rfl,rfl,_,_,rfl,rfl,.inr ⟨by omega,by omega⟩,_,_,rfl,rfl,hQ _ (Same.refl _)⟩
  ·intro p H7 s7 h7
   refine ⟨s46.trans s7,p,_,rfl,?_⟩
   rw [h7,qhl]
   rfl
 ·rintro σ H2 ⟨s2,l,o,rfl,hl⟩
  have lc:=qdm (t:=t) (u:=b - t) n
  refine ⟨_,rfl,_,_,rfl,rfl,_,rfl,by omega,by omega,qbD (n:=n + 1) (fs:=[some (.ref l)]) (fun p i ys H'=>Same H2 H'/\ys=(List.range i).map fun (j:Nat)=>V.int ((cf t (b - t) n).drop j).sum) (by omega) (fun p hp=>⟨sN hp _,rfl⟩) ?_ ?_⟩
  ·rintro p i ys H' hp hi hlen ⟨s',rfl⟩ hp' Q' hQ
   refine ⟨_,rfl,_,rfl,_,rfl,l,_,rfl,s' _ _ hl,fun c hc=>⟨c,(cf t (b - t) n).drop i,rfl,?_,hQ _ _ (sN hc _ _ _ hp') ⟨fun x o e=>?_,?_⟩⟩⟩
   ·rw [uS,qks]
   ·rw [uE (qae e hp)]; exact sN hc _ _ _ (s' _ _ e)
   ·rw [List.range_succ]; simp
  ·rintro p ys H' hp ⟨s',rfl⟩ hp' hlen
   exact k _ _ (s2.trans s') hp'
end
def lcmF (qs:List (Int × Int)):Int:=qs.foldl (fun b q=>b / gI b q.2 * q.2) 1
def chF (L:Int)(qs:List (Int × Int)):List Int:=qs.map fun q=>q.1 * (L / q.2)
def tF (L:Int)(qs:List (Int × Int))(balls many j:Nat):Int:=((cf ((chF L qs).take many).sum (L - ((chF L qs).take many).sum) balls).drop j).sum
structure Rl (qs:List (Int × Int))(B:Int):Prop where
 dv:∀ q∈qs,0≤q.1/\q.1≤q.2/\0 < q.2/\q.2 ∣ B
 b0:0 < B
 b1:B≤2000
theorem qjz {b d:Int}(hb:0 < b)(hd:0 < d):b / gI b d * d=((Nat.lcm b.toNat d.toNat:Nat):Int):=by
 obtain ⟨x,rfl⟩:∃ x:Nat,b=(x:Int):=⟨b.toNat,by omega⟩
 obtain ⟨y,rfl⟩:∃ y:Nat,d=(y:Int):=⟨d.toNat,by omega⟩
 rw [qiM,Int.toNat_natCast,Int.toNat_natCast,<- Int.natCast_ediv,<- Int.natCast_mul,Nat.div_mul_right_comm (Nat.gcd_dvd_left x y)]
 rfl
theorem qgt {B:Int}(hB:0 < B):∀ (qs:List (Int × Int)) (b:Int),0 < b->b ∣ B->(∀ q∈qs,0 < q.2/\q.2 ∣ B)->0 < qs.foldl (fun b q=>b / gI b q.2 * q.2) b/\qs.foldl (fun b q=>b / gI b q.2 * q.2) b ∣ B/\b ∣ qs.foldl (fun b q=>b / gI b q.2 * q.2) b/\∀ q∈qs,q.2 ∣ qs.foldl (fun b q=>b / gI b q.2 * q.2) b
 | [],b,h0,hd,_=>⟨h0,hd,Int.dvd_refl _,by simp⟩
 | q :: qs,b,h0,hd,hq=>by
  obtain ⟨q0,qd⟩:=hq q List.mem_cons_self
  have e:=qjz h0 q0
  have p1:0 < b / gI b q.2 * q.2:=by
   rw [e]
   have:0 < Nat.lcm b.toNat q.2.toNat:=Nat.lcm_pos (by omega) (by omega)
   omega
  have p2:b / gI b q.2 * q.2 ∣ B:=by
   rw [e]
   obtain ⟨Bn,rfl⟩:∃ x:Nat,B=(x:Int):=⟨B.toNat,by omega⟩
   rw [Int.natCast_dvd_natCast]
   refine Nat.lcm_dvd ?_ ?_
   ·rw [<- Int.natCast_dvd_natCast,show ((b.toNat:Nat):Int)=b by omega]; exact hd
   ·rw [<- Int.natCast_dvd_natCast,show ((q.2.toNat:Nat):Int)=q.2 by omega]; exact qd
  have d1:b ∣ b / gI b q.2 * q.2:=by
   rw [e]
   have:=Nat.dvd_lcm_left b.toNat q.2.toNat
   rw [<- Int.natCast_dvd_natCast,show ((b.toNat:Nat):Int)=b by omega] at this
   exact this
  have d2:q.2 ∣ b / gI b q.2 * q.2:=Int.dvd_mul_left _ _
  obtain ⟨i1,i2,i3,i4⟩:=qgt hB qs _ p1 p2 fun r hr=>hq r (List.mem_cons_of_mem _ hr)
  refine ⟨i1,i2,Int.dvd_trans d1 i3,fun r hr=>?_⟩
  rcases List.mem_cons.mp hr with rfl | hr
  ·exact Int.dvd_trans d2 i3
  ·exact i4 r hr
theorem qcH {qs:List (Int × Int)}{B:Int}(r:Rl qs B):0 < lcmF qs/\lcmF qs≤2000/\∀ q∈qs,q.2 ∣ lcmF qs:=by
 obtain ⟨h1,h2,_,h4⟩:=qgt r.b0 qs 1 (by decide) (Int.one_dvd _) fun q hq=>⟨(r.dv q hq).2.2.1,(r.dv q hq).2.2.2⟩
 exact ⟨h1,Int.le_trans (Int.le_of_dvd r.b0 h2) r.b1,h4⟩
theorem qkc {qs:List (Int × Int)}{B:Int}(r:Rl qs B)(i:Nat):0 < lcmF (qs.take i)/\lcmF (qs.take i)≤2000 :=
 have:=qcH (qs:=qs.take i) (B:=B) ⟨fun q hq=>r.dv q (List.mem_of_mem_take hq),r.b0,r.b1⟩
 ⟨this.1,this.2.1⟩
theorem qkd {qs:List (Int × Int)}{i:Nat}{q:Int × Int}(h:qs[i]?=some q):lcmF (qs.take (i + 1))=lcmF (qs.take i) / gI (lcmF (qs.take i)) q.2 * q.2:=by
 unfold lcmF
 rw [List.take_add_one,h,List.foldl_append]
 rfl
structure Ch (L:Int)(qs:List (Int × Int)):Prop where
 nn:∀ x∈chF L qs,0≤x
 sm:(chF L qs).sum≤L
theorem qee:∀ {cs:List Int} (i:Nat),(∀ x∈cs,0≤x)->0≤(cs.take i).sum/\(cs.take i).sum≤cs.sum
 | [],i,_=>by simp
 | c :: cs,0,h=>by
  have:=qd6 h
  simp only [List.take_zero,List.sum_nil]
  omega
 | c :: cs,i + 1,h=>by
  have:=qee (cs:=cs) i fun x hx=>h x (List.mem_cons_of_mem _ hx)
  have:=h c List.mem_cons_self
  simp only [List.take_succ_cons,List.sum_cons]
  omega
theorem qiv {t B:Int}(hB:0 < B):(lowF t B).1 * B=t * (lowF t B).2:=by
 show t / gI t B * B=t * (B / gI t B)
 obtain ⟨u,hu⟩:=qbk t B
 obtain ⟨v,hv⟩:=qaV t B
 have g:=qay (a:=t) (b:=B) (by omega)
 generalize gI t B=gg at hu hv g
 rw [hu,hv,Int.mul_ediv_cancel_left _ (by omega),Int.mul_ediv_cancel_left _ (by omega)]
 ac_rfl
theorem qfu {ts:List Int}{B:Int}(r:qfe ts B):Rl (ts.map fun x=>lowF x B) B:=by
 refine ⟨fun q hq=>?_,r.b0,r.b1⟩
 obtain ⟨x,hx,rfl⟩:=List.mem_map.mp hq
 have x0:=r.nn x hx
 have xB:=qiy r.nn hx
 rw [r.sm] at xB
 have b0:=r.b0
 have g:=qay (a:=x) (b:=B) (by omega)
 refine ⟨Int.ediv_nonneg x0 (by omega),Int.ediv_le_ediv g xB,?_,?_⟩
 ·show 0 < B / gI x B
  exact Int.ediv_pos_of_pos_of_dvd b0 (by omega) (qaV x B)
 ·show B / gI x B ∣ B
  exact Int.ediv_dvd_of_dvd (qaV x B)
theorem qm7 {L B:Int}(hB:0 < B){q:Int × Int}{t:Int}(hq:q.1 * B=t * q.2)(hd:q.2 ∣ L)(q0:0 < q.2):q.1 * (L / q.2) * B=t * L:=by
 obtain ⟨m,rfl⟩:=hd
 rw [Int.mul_ediv_cancel_left _ (by omega)]
 calc q.1 * m * B=q.1 * B * m:=by ac_rfl
  _=t * q.2 * m:=by rw [hq]
  _=t * (q.2 * m):=by ac_rfl
theorem qi4 {L B:Int}(hB:0 < B):∀ ts:List Int,(∀ x∈ts,0 < (lowF x B).2/\(lowF x B).2 ∣ L)->(chF L (ts.map fun x=>lowF x B)).sum * B=ts.sum * L
 | [],_=>by simp [chF]
 | t :: ts,h=>by
  have ih:=qi4 hB ts fun x hx=>h x (List.mem_cons_of_mem _ hx)
  obtain ⟨h1,h2⟩:=h t List.mem_cons_self
  have:=qm7 hB (qiv (t:=t) hB) h2 h1
  show ((lowF t B).1 * (L / (lowF t B).2) + (chF L (ts.map fun x=>lowF x B)).sum) * B=(t + ts.sum) * L
  rw [Int.add_mul,Int.add_mul,this,ih]
theorem qi5 {ts:List Int}{B:Int}(r:qfe ts B):Ch (lcmF (ts.map fun x=>lowF x B)) (ts.map fun x=>lowF x B):=by
 have rl:=qfu r
 obtain ⟨l0,l1,ld⟩:=qcH rl
 refine ⟨fun x hx=>?_,?_⟩
 ·obtain ⟨q,hq,rfl⟩:=List.mem_map.mp hx
  exact Int.mul_nonneg (rl.dv q hq).1 (Int.ediv_nonneg (by omega) (by have:=(rl.dv q hq).2.2.1; omega))
 ·have:=qi4 (L:=lcmF (ts.map fun x=>lowF x B)) r.b0 ts fun x hx=>⟨(rl.dv _ (List.mem_map_of_mem hx)).2.2.1,ld _ (List.mem_map_of_mem hx)⟩
  rw [r.sm,Int.mul_comm B] at this
  exact Int.le_of_eq (Int.eq_of_mul_eq_mul_right (by have:=r.b0; omega) this)
def LsAt (H:Hp)(v:V)(ns:List Int):Prop:=∃ a,v = .ref a/\H a=some (.lst (iv ns))
def Rws (H:Hp):List V->List (List Int)->Prop:=Paired (LsAt H)
theorem Rws.same {H H':Hp}(s:Same H H'):∀ {xs:List V} {rs:List (List Int)},Rws H xs rs->Rws H' xs rs
 | _,_,.nil => .nil
 | _,_,.cons r t=>let ⟨a,e,h⟩:=r; .cons ⟨a,e,s _ _ h⟩ (Rws.same s t)
theorem Rws.len {H:Hp}:∀ {xs:List V} {rs:List (List Int)},Rws H xs rs->xs.length=rs.length
 | _,_,.nil=>rfl
 | _,_,.cons _ t=>by simp [Rws.len t]
theorem Rws.refs {H:Hp}:∀ {xs:List V} {rs:List (List Int)},Rws H xs rs->∀ x∈xs,∃ a,x = .ref a
 | _,_,.nil,x,h=>by simp at h
 | _,_,.cons r t,x,h=>by
  rcases List.mem_cons.mp h with rfl | h
  ·obtain ⟨a,e,_⟩:=r; exact ⟨a,e⟩
  ·exact Rws.refs t x h
theorem Rws.get {H:Hp}{xs:List V}{rs:List (List Int)}(h:Rws H xs rs){i:Nat}{r:List Int}(hr:rs[i]?=some r):∃ a,xs[i]?=some (.ref a)/\H a=some (.lst (iv r)):=by
 induction h generalizing i with
 | nil=>simp at hr
 | cons r0 t ih =>
  cases i with
  | zero =>
   have:=Option.some.inj (by simpa using hr)
   subst this
   obtain ⟨a,e,h⟩:=r0
   exact ⟨a,by simp [e],h⟩
  | succ i=>exact ih (by simpa using hr)
theorem ls_ne {H:Hp}{a acc:Addr}{ns:List Int}{ys:List V}(ha:H a=some (.lst (iv ns)))(hacc:H acc=some (.lst ys))(hn:ns≠[])(hy:∀ y∈ys,∃ b,y = .ref b):a≠acc:=by
 rintro rfl
 rw [ha] at hacc
 have e:=HO.lst.inj (Option.some.inj hacc)
 cases ns with
 | nil=>exact hn rfl
 | cons n ns =>
  have hm:V.int n∈ys:=by rw [<- e]; simp
  obtain ⟨b,e'⟩:=hy _ hm
  cases e'
theorem Rws.upd {H:Hp}{acc:Addr}{zs:List V}{o:HO}(hacc:H acc=some (.lst zs))(hz:∀ y∈zs,∃ b,y = .ref b):∀ {xs:List V} {rs:List (List Int)},Rws H xs rs->(∀ r∈rs,r≠[])->Rws (upd H acc o) xs rs
 | _,_,.nil,_ => .nil
 | _,_,.cons r t,h=>by
  obtain ⟨a,e,ha⟩:=r
  exact .cons ⟨a,e,by rw [uE (ls_ne ha hacc (h _ List.mem_cons_self) hz)]; exact ha⟩ (Rws.upd hacc hz t fun r hr=>h r (List.mem_cons_of_mem _ hr))
theorem Rws.snoc {H:Hp}{v:V}{r:List Int}(h:LsAt H v r):∀ {xs:List V} {rs:List (List Int)},Rws H xs rs->Rws H (xs ++ [v]) (rs ++ [r])
 | _,_,.nil => .cons h .nil
 | _,_,.cons r t => .cons r (Rws.snoc h t)
theorem Prs.get {H:Hp}{xs:List V}{ps:List (Int × Int)}(h:Prs H xs ps){i:Nat}{x:V}(hx:xs[i]?=some x):∃ q,ps[i]?=some q/\PrAt H x q:=by
 induction h generalizing i with
 | nil=>simp at hx
 | cons r0 t ih =>
  cases i with
  | zero =>
   have:=Option.some.inj (by simpa using hx)
   subst this
   exact ⟨_,rfl,r0⟩
  | succ i =>
   obtain ⟨q,h1,h2⟩:=ih (i:=i) (by simpa using hx)
   exact ⟨q,by simpa using h1,h2⟩
theorem Prs.len {H:Hp}:∀ {xs:List V} {ps:List (Int × Int)},Prs H xs ps->xs.length=ps.length
 | _,_,.nil=>rfl
 | _,_,.cons _ t=>by simp [Prs.len t]
section
variable {P:Program}{w:World}{K:PySem.W.Frag}{mg:Str->Option Value}{base:Heap}
def qey:Sp:=fun vs H Q _=>∃ (l:Addr) (xs:List V) (qs:List (Int × Int)) (B:Int),vs=[.ref l]/\H l=some (.lst xs)/\Prs H xs qs/\Rl qs B/\qs.length≤100 /\
 ∀ (t c:Addr) (H':Hp),Same H H'->H' t=some (.tup [.ref c,.int (lcmF qs)])->H' c=some (.lst (iv (chF (lcmF qs) qs)))->Q (.ref t) H'
theorem qg4 (C_measure:Cal P w K mg base "measure" ["a", "b"] 1 qcb)(F:FunAt K mg "weighed" ["some"] s_weighed):Cal P w K mg base "weighed" ["some"] 2 qey:=by
 have S:=qbT
 refine F.cal qbT (fun vs H Q E h=>?_) (fun f cdv A outer s H vs Q E hr h=>?_)
 ·obtain ⟨l,xs,qs,B,rfl,_⟩:=h; rfl
 obtain ⟨l,xs,qs,B,rfl,hl,prs,rl,hn,k⟩:=h
 have xl:=Prs.len prs
 refine ⟨_,(@pK _ _ _ _ _ (@pZ _ _ (1) _ _ _ _ (by exact S.nd) ⋯ ⋯ pI ⋯ ⋯) (@pK _ _ _ _ _ (@qbj _ _ _ _ _ _ _ _ (by exact PassesOwn.never) ⋯ (@qaS _ _ _ _ (pv 0)) (@pG _ _ (2) _ (by exact S.nd) ⋯ ⋯ ⋯) (@pO _ _ _ (@pZ _ _ (1) _ _ _ _ (by exact S.nd) ⋯ ⋯ (@pP _ _ _ _ _ _ _ _ qbf (@pP _ _ _ _ _ _ _ _ qde (pv 1) (@cc _ _ _ _ _ _ _ _ _ _ (by exact C_measure) (by exact (hr.mono (by decide))) (@pC _ _ _ _ _ (pv 1) (@pC _ _ _ _ _ (@qax _ _ _ _ _ _ _ qa9 (pv 2) pI (by exact (fun _ _=>rfl))) pN ⋯) ⋯) ⋯ ⋯ ⋯ ⋯)) (@qax _ _ _ _ _ _ _ qa9 (pv 2) pI (by exact (fun _ _=>rfl)))) ⋯ ⋯)) ⋯) (@pO _ _ _ (@qan _ _ _ _ (@qaN _ _ _ _ _ (@pC _ _ _ _ _ (@qaE _ _ _ _ _ _ _ _ _ _ _ _ _ ⋯ (by exact (fun _ _ h=>h)) (by decide +kernel) ⋯ (by decide +kernel) (by exact qaJ rfl) (by exact Sees.frees ["one"] [("bottom",1)] (qal ⟨rfl,rfl⟩ qaK)) (@qaS _ _ _ _ (pv 0)) (fun _ _ _ _ _ => @pG _ _ (0) _ (by exact (show (["one", "bottom"]:List Str).Nodup by decide +kernel)) ⋯ ⋯ ⋯) (fun _ _ _ _ _=>qaG) (fun _ _ _ _ _=>(@pP _ _ _ _ _ _ _ _ qbf (@qax _ _ _ _ _ _ _ qa9 (pv 0) pI (by exact (fun _ _=>rfl))) (@pP _ _ _ _ _ _ _ _ qde (pv 1) (@qax _ _ _ _ _ _ _ qa9 (pv 0) pI (by exact (fun _ _=>rfl)))))) ⋯) (@pC _ _ _ _ _ (pv 1) pN ⋯) ⋯)))))),?_⟩
 refine ⟨_,rfl,l,rfl,⟨_,SqL.of hl⟩,qcT (xs:=xs) (fun i σ H'=>H'=H/\∃ o,σ=[some (.ref l),some (.int (lcmF (qs.take i))),o]) ?_ ?_ ?_ ?_⟩
 ·exact ⟨rfl,_,rfl⟩
 ·rintro i σ H' _ ⟨rfl,_⟩
  exact SqL.of hl
 ·rintro i x σ H' hx ⟨rfl,o,rfl⟩
  obtain ⟨q,hq,⟨a,rfl,ha⟩⟩:=Prs.get prs hx
  obtain ⟨b0,b1⟩:=qkc rl i
  obtain ⟨q0,q1,q2,q3⟩:=rl.dv q (List.mem_of_getElem? hq)
  have q2000:q.2≤2000:=Int.le_trans (Int.le_of_dvd rl.b0 q3) rl.b1
  have g0:=qfP (a:=lcmF (qs.take i)) (b:=q.2) (by omega)
  have g1:gI (lcmF (qs.take i)) q.2≤lcmF (qs.take i):=Int.le_of_dvd b0 (qbk _ _)
  refine ⟨_,rfl,_,rfl,_,rfl,a,_,_,_,rfl,rfl,ha,rfl,_,_,rfl,_,_,rfl,rfl,⟨g0,by omega⟩,_,rfl,a,_,_,_,rfl,rfl,ha,rfl,_,_,rfl,rfl,.inr ⟨by omega,by omega⟩,?_⟩
  exact ⟨rfl,_,by rw [qkd hq]; rfl⟩
 ·rintro σ H2 ⟨rfl,o,rfl⟩
  rw [xl,List.take_length]
  obtain ⟨b0,b1,bd⟩:=qcH rl
  refine ⟨_,rfl,l,rfl,⟨_,SqL.of hl⟩,qer (xs:=xs) (fs:=[some (.int (lcmF qs))]) (fun acc i ys H'=>Same H2 H'/\ys=iv (chF (lcmF qs) (qs.take i))) (by omega) ?_ ?_ ?_ ?_⟩
  ·intro acc hacc
   exact ⟨sN hacc _,rfl⟩
  ·rintro acc i ys H' hacc ⟨s',_⟩
   exact s' _ _ hl
  ·rintro acc i ys H' x hacc hx hlen ⟨s',rfl⟩ hacc' Q' hQ
   obtain ⟨q,hq,⟨a,rfl,ha⟩⟩:=Prs.get prs hx
   obtain ⟨q0,q1,q2,q3⟩:=rl.dv q (List.mem_of_getElem? hq)
   have q2000:q.2≤2000:=Int.le_trans (Int.le_of_dvd rl.b0 q3) rl.b1
   refine ⟨_,rfl,a,_,_,_,rfl,rfl,s' _ _ ha,rfl,_,rfl,_,rfl,a,_,_,_,rfl,rfl,s' _ _ ha,rfl,_,_,rfl,rfl,⟨q2,by omega⟩,_,_,rfl,rfl,.inl ⟨by show -(2 ^ 64) < q.1; omega,by show q.1 < 2 ^ 64; omega⟩,hQ _ H' hacc' ⟨qao hacc s' _,?_⟩⟩
   unfold chF
   rw [List.take_add_one,hq,List.map_append]
   simp
  ·rintro acc ys H' hacc ⟨s',rfl⟩ hacc' hlen
   rw [xl,List.take_length] at hacc'
   refine ⟨_,rfl,lz 2 rfl,fun t ht=>?_⟩
   have st:=sN ht (.tup [.ref acc,.int (lcmF qs)])
   exact k t acc _ (s'.trans st) uS (st _ _ hacc')
def RuAt (H:Hp)(r:Addr)(qs:List (Int × Int))(B:Int):Prop:=∃ xs,H r=some (.tup xs)/\Prs H xs qs/\Rl qs B/\Ch (lcmF qs) qs/\qs.length≤12/\1≤qs.length
theorem RuAt.same {H H':Hp}{r:Addr}{qs:List (Int × Int)}{B:Int}(s:Same H H')(h:RuAt H r qs B):RuAt H' r qs B:=let ⟨xs,h1,h2,h3⟩:=h; ⟨xs,s _ _ h1,Prs.same s h2,h3⟩
def rowsF (qs:List (Int × Int))(balls wd:Nat):List (List Int):=(List.range (qs.length + 1)).map fun many=>(List.range wd).map fun j=>tF (lcmF qs) qs balls many j
def qc3:Sp:=fun vs H Q _=>∃ (r:Addr) (qs:List (Int × Int)) (B:Int) (balls:Nat),vs=[.ref r,.int balls]/\RuAt H r qs B/\balls≤100 /\
 ∀ (t c:Addr) (xs:List V) (H':Hp),Same H H'->H' t=some (.tup [.ref c,.int (lcmF qs)])->H' c=some (.lst xs)->Rws H' xs (rowsF qs balls (balls + 1))->Q (.ref t) H'
theorem qg5 (T:Txt2 mg)(C_weighed:Cal P w K mg base "weighed" ["some"] 2 qey)(C_tail_tops:Cal P w K mg base "tail_tops" ["tries", "top", "bottom"] 1 spTT)(F:FunAt K mg "tails_of" ["rule", "balls"] s_tails_of):Cal P w K mg base "tails_of" ["rule", "balls"] 3 qc3:=by
 have S:=qc5
 refine F.cal qc5 (fun vs H Q E h=>?_) (fun f cdv A outer s H vs Q E hr h=>?_)
 ·obtain ⟨r,qs,B,balls,rfl,_⟩:=h; rfl
 obtain ⟨r,qs,B,balls,rfl,⟨xs,hx,prs,rl,ch,hn,hn1⟩,hb,k⟩:=h
 have xl:=Prs.len prs
 obtain ⟨L0,L1,Ld⟩:=qcH rl
 refine ⟨_,(@pK _ _ _ _ _ (@qbH _ _ _ _ _ _ (@cc _ _ _ _ _ _ _ _ _ _ (by exact C_weighed) (by exact (hr.mono (by decide))) (@pC _ _ _ _ _ (@qaB _ _ _ _ _ _ _ _ _ qbc ⋯ (by exact T.z_list) (by exact qdo) (@pC _ _ _ _ _ (pv 0) pN ⋯) ⋯ ⋯ ⋯ ⋯) pN ⋯) ⋯ ⋯ ⋯ ⋯) (@qbs _ _ _ _ _ _ ⋯ (@qab _ _ _ _ _ (@pG _ _ (2) _ (by exact S.nd) ⋯ ⋯ ⋯) (@qab _ _ _ _ _ (@pG _ _ (3) _ (by exact S.nd) ⋯ ⋯ ⋯) qas ⋯) ⋯) ⋯ ⋯) ⋯ ⋯ ⋯) (@pO _ _ _ (@qan _ _ _ _ (@qaN _ _ _ _ _ (@pC _ _ _ _ _ (@qaE _ _ _ _ _ _ _ _ _ _ _ _ _ ⋯ (by exact (fun _ _ h=>h)) (by decide +kernel) ⋯ (by decide +kernel) (by exact qaJ rfl) (by exact Sees.frees ["many"] [("balls",1),("chances",2),("bottom",3)] (qal ⟨rfl,rfl⟩ (qal ⟨rfl,rfl⟩ (qal ⟨rfl,rfl⟩ qaK)))) (@qaA _ _ _ _ _ _ ⋯ (by exact T.z_range) (@pC _ _ _ _ _ (@pP _ _ _ _ _ _ _ _ qaF (@qag _ _ _ _ _ _ _ _ _ qai ⋯ (by exact T.z_len) (by exact qa4) (@pC _ _ _ _ _ (pv 0) pN ⋯) ⋯ ⋯ ⋯ ⋯) pI) pN ⋯) ⋯) (fun _ _ _ _ _ => @pG _ _ (0) _ (by exact (show (["many", "balls", "chances", "bottom"]:List Str).Nodup by decide +kernel)) ⋯ ⋯ ⋯) (fun _ _ _ _ _=>qaG) (fun _ _ _ _ _=>(@cc _ _ _ _ _ _ _ _ _ _ (by exact C_tail_tops) (by exact (hr.mono (by decide))) (@pC _ _ _ _ _ (pv 1) (@pC _ _ _ _ _ (@qag _ _ _ _ _ _ _ _ _ (qcn ⋯) ⋯ (by exact T.z_sum) (by exact qe8) (@pC _ _ _ _ _ (@qcg _ _ _ _ _ _ _ _ _ _ qf7 (pv 2) qdc (@qcs _ _ _ (pv 0))) pN ⋯) ⋯ ⋯ ⋯ ⋯) (@pC _ _ _ _ _ (pv 3) pN ⋯) ⋯) ⋯) ⋯ ⋯ ⋯ ⋯)) ⋯) (@pC _ _ _ _ _ (pv 3) pN ⋯) ⋯))))),?_⟩
 refine ⟨_,rfl,r,_,rfl,.inr (SqT.of hx),fun l hl=>?_⟩
 have s1:=sN hl (.lst xs)
 refine ⟨l,xs,qs,B,rfl,uS,Prs.same s1 prs,rl,by omega,fun t c H2 s2 ht hc=>?_⟩
 refine ⟨t,_,rfl,SqT.of ht,rfl,_,_,rfl,_,_,rfl,rfl,?_⟩
 have hx2:=(s1.trans s2) _ _ hx
 have cl:(chF (lcmF qs) qs).length=qs.length:=by simp [chF]
 refine ⟨_,rfl,r,_,rfl,.inr (SqT.of hx2),_,_,rfl,rfl,_,rfl,by omega,by omega,qbD (n:=(((xs.length:Nat):Int) + 1).toNat) (lo:=0) (fs:=[some (.int balls),some (.ref c),some (.int (lcmF qs))]) (fun acc i ys H'=>Same H2 H'/\Rws H' ys ((List.range i).map fun many=>(List.range (balls + 1)).map fun j=>tF (lcmF qs) qs balls many j)) (by omega) ?_ ?_ ?_⟩
 ·intro acc hacc
  exact ⟨sN hacc _,.nil⟩
 ·rintro acc i ys H' hacc hi hlen ⟨s',rw'⟩ hacc' Q' hQ
  refine ⟨_,rfl,_,rfl,_,rfl,_,rfl,c,_,rfl,s' _ _ hc,fun d hd=>?_⟩
  have ed:cutV (iv (chF (lcmF qs) qs)) none (some (0 + (i:Int)))=iv ((chF (lcmF qs) qs).take i):=by
   rw [Int.zero_add,L2.cut_take (by simp [cl]; omega),qiD]
  rw [ed]
  have s3:=sN hd (.lst (iv ((chF (lcmF qs) qs).take i)))
  obtain ⟨c0,c1⟩:=qee i ch.nn
  have c2:=ch.sm
  refine ⟨d,_,rfl,uS,_,rfl,balls,_,_,rfl,hb,c0,by omega,by omega,fun q H3 s4 hq=>?_⟩
  have s5:=s3.trans s4
  have eq':(List.range (balls + 1)).map (fun (j:Nat)=>V.int ((cf ((chF (lcmF qs) qs).take i).sum (lcmF qs - ((chF (lcmF qs) qs).take i).sum) balls).drop j).sum)=iv ((List.range (balls + 1)).map fun j=>tF (lcmF qs) qs balls i j):=by
   show _=List.map V.int _
   rw [List.map_map]; rfl
  rw [eq'] at hq
  have hne:∀ r∈((List.range i).map fun many=>(List.range (balls + 1)).map fun j=>tF (lcmF qs) qs balls many j) ++ [(List.range (balls + 1)).map fun j=>tF (lcmF qs) qs balls i j],r≠[]:=fun r hr=>by
   have:r.length=balls + 1:=by
    rcases List.mem_append.mp hr with z | z
    ·obtain ⟨_,_,rfl⟩:=List.mem_map.mp z; simp
    ·rw [List.mem_singleton.mp z]; simp
   intro e
   rw [e] at this
   simp at this
  have rf:=Rws.refs rw'
  refine hQ _ H3 (s5 _ _ hacc') ⟨qao hacc (s'.trans s5) _,?_⟩
  rw [show List.range (i + 1)=List.range i ++ [i] from List.range_succ,List.map_append]
  exact Rws.upd (s5 _ _ hacc') rf (Rws.snoc ⟨q,rfl,hq⟩ (Rws.same s5 rw')) hne
 ·rintro acc ys H' hacc ⟨s',rw'⟩ hacc' hlen
  refine ⟨_,rfl,lz 2 rfl,fun t2 ht2=>?_⟩
  have st:=sN ht2 (.tup [.ref acc,.int (lcmF qs)])
  rw [xl,show (((qs.length:Nat):Int) + 1).toNat=qs.length + 1 by omega] at rw'
  exact k t2 acc ys _ ((s1.trans s2).trans (s'.trans st)) uS (st _ _ hacc') (Rws.same st rw')
end
def pF (n balls:Nat)(T:Nat->Nat->Int)(k ahead b:Int):Int:=if b=n\/(balls:Int) < k * (b + 1) then 0 else T ahead.toNat (b + 1).toNat
theorem qmj {xs:List V}{x:V}:atI (xs ++ [x]) (-1)=some x:=by
 have hl:(xs ++ [x]).length=xs.length + 1:=by simp
 unfold atI ixN
 rw [hl,if_neg (by decide),if_pos (by omega)]
 show (xs ++ [x])[((-1:Int) + ((xs.length + 1:Nat):Int)).toNat]?=some x
 rw [show ((-1:Int) + ((xs.length + 1:Nat):Int)).toNat=xs.length by omega]
 simp
theorem qmC {a b c i:Int}{P:Int->Prop}(h0:0≤i)(h1:i < 3)(ha:P a)(hb:P b)(hc:P c):∃ z,P z/\atI ([.int a,.int b,.int c]:List V) i=some (.int z):=by
 rcases (show i=0\/i=1\/i=2 by omega) with rfl | rfl | rfl
 ·exact ⟨a,ha,rfl⟩
 ·exact ⟨b,hb,rfl⟩
 ·exact ⟨c,hc,rfl⟩
theorem gdL {xs ys:List Int}{i:Nat}(h:i < xs.length):(xs ++ ys).getD i 0=xs.getD i 0:=by
 rw [List.getD_eq_getElem?_getD,List.getD_eq_getElem?_getD,List.getElem?_append_left h]
theorem gdR {xs ys:List Int}{i:Nat}(h:xs.length≤i):(xs ++ ys).getD i 0=ys.getD (i - xs.length) 0:=by
 rw [List.getD_eq_getElem?_getD,List.getD_eq_getElem?_getD,List.getElem?_append_right h]
def Fall (ls:List Int):Prop:=∀ i,i + 1 < ls.length->ls.getD (i + 1) 0≤ls.getD i 0
theorem qiN {ls:List Int}{x z:Int}(h:Fall (ls ++ [x]))(hz:z≤x):Fall (ls ++ [x] ++ [z]):=fun i hi=>by
 have hl:(ls ++ [x] ++ [z]).length=ls.length + 2:=by simp
 have hl1:(ls ++ [x]).length=ls.length + 1:=by simp
 by_cases c:i + 1 < ls.length + 1
 ·have:=h i (by omega)
  rw [gdL (xs:=ls ++ [x]) (by omega),gdL (xs:=ls ++ [x]) (by omega)]
  exact this
 ·have e:i=ls.length:=by omega
  subst e
  rw [gdR (xs:=ls ++ [x]) (by omega),gdL (xs:=ls ++ [x]) (by omega),gdR (xs:=ls) (by omega),hl1]
  simpa using hz
section
variable {P:Program}{w:World}{K:PySem.W.Frag}{mg:Str->Option Value}{base:Heap}
def qf5:Sp:=fun vs H Q _=>∃ (p:Addr) (n:Int) (m:Nat),vs=[.ref p,.int n]/\PenY H p m/\m < 90000/\1≤n/\n≤12 /\
 ∀ (t:Addr) (ls:List Int) (H':Hp),H' t=some (.tup (iv ls))->2≤ls.length->ls.length≤7->(∀ x∈ls,0≤x/\x≤n)->Fall ls->ls.getD 0 0=n->PenY H' p (m + 13)->qbh p H H'->Q (.ref t) H'
theorem qik (T:Txt2 mg)(C_l_draw:Cal P w K mg base "_law_draw" ["_law_pen_here", "_law_many"] 1 qd9)(F:FunAt K mg "_law_layers" ["_law_pen_here", "_law_n"] s_l_layers):Cal P w K mg base "_law_layers" ["_law_pen_here", "_law_n"] 2 qf5:=by
 have S:=qc8
 refine F.cal qc8 (fun vs H Q E h=>?_) (fun f cdv A outer s H vs Q E hr h=>?_)
 ·obtain ⟨p,n,m,rfl,_⟩:=h; rfl
 obtain ⟨p,n,m,rfl,hp,hm,n1,n2,k⟩:=h
 refine ⟨_,(@pK _ _ _ _ _ (@pZ _ _ (2) _ _ _ _ (by exact S.nd) ⋯ ⋯ (@qbb _ _ _ _ (@pC _ _ _ _ _ (pv 1) pN ⋯)) ⋯ ⋯) (@pK _ _ _ _ _ (@qbj _ _ _ _ _ _ _ _ (by exact PassesOwn.never) ⋯ (@qaA _ _ _ _ _ _ ⋯ (by exact T.z_range) (@pC _ _ _ _ _ (@pP _ _ _ _ _ _ _ _ qaF pI (@cc _ _ _ _ _ _ _ _ _ _ (by exact C_l_draw) (by exact (hr.mono (by decide))) (@pC _ _ _ _ _ (pv 0) (@pC _ _ _ _ _ pI pN ⋯) ⋯) ⋯ ⋯ ⋯ ⋯)) pN ⋯) ⋯) (@pG _ _ (3) _ (by exact S.nd) ⋯ ⋯ ⋯) (@pK _ _ _ _ _ (@pZ _ _ (4) _ _ _ _ (by exact S.nd) ⋯ ⋯ (@cc _ _ _ _ _ _ _ _ _ _ (by exact C_l_draw) (by exact (hr.mono (by decide))) (@pC _ _ _ _ _ (pv 0) (@pC _ _ _ _ _ pI pN ⋯) ⋯) ⋯ ⋯ ⋯ ⋯) ⋯ ⋯) (@pK _ _ _ _ _ (@pZ _ _ (5) _ _ _ _ (by exact S.nd) ⋯ ⋯ (@qax _ _ _ _ _ _ _ qa2 (@qbb _ _ _ _ (@pC _ _ _ _ _ pI (@pC _ _ _ _ _ (@qax _ _ _ _ _ _ _ qa2 (pv 2) (@qls _ _ _ _ _ _ qht pI) (by exact (fun _ _=>rfl))) (@pC _ _ _ _ _ (@cc _ _ _ _ _ _ _ _ _ _ (by exact C_l_draw) (by exact (hr.mono (by decide))) (@pC _ _ _ _ _ (pv 0) (@pC _ _ _ _ _ (@pP _ _ _ _ _ _ _ _ qaF (@qax _ _ _ _ _ _ _ qa2 (pv 2) (@qls _ _ _ _ _ _ qht pI) (by exact (fun _ _=>rfl))) pI) pN ⋯) ⋯) ⋯ ⋯ ⋯ ⋯) pN ⋯) ⋯) ⋯)) (pv 4) (by exact (fun _ _=>rfl))) ⋯ ⋯) (@pO _ _ _ (@qfx _ _ _ _ (@qmE _ _ _ _ _ _ _ _ _ _ _ _ (by exact PySem.F.plainAttrs_list) (by exact PySem.F.slot_list_append) (by exact PySem.F.type_list_append) qbM (pv 2) (@pC _ _ _ _ _ (pv 5) pN ⋯) ⋯ ⋯ ⋯ ⋯ ⋯) ⋯)))) ⋯) (@pO _ _ _ (@qan _ _ _ _ (@qaB _ _ _ _ _ _ _ _ _ qaM ⋯ (by exact T.z_tuple) (by exact qbE) (@pC _ _ _ _ _ (pv 2) pN ⋯) ⋯ ⋯ ⋯ ⋯))))),?_⟩
 refine ⟨_,rfl,lz 1 rfl,fun l hl=>?_⟩
 have hlp:=hp.ne hl
 have s0:=sN hl (.lst [.int n])
 refine ⟨_,rfl,p,_,_,rfl,hp.same s0,by omega,by decide,by decide,fun d H1 d0 d1 p1 x1=>⟨_,_,rfl,rfl,_,rfl,by omega,by omega,?_⟩⟩
 have hl1:=x1.all l _ uS hlp
 refine qck (n:=(1 + d).toNat) (fun i σ H'=>(∃ (ls:List Int) (x:Int),H' l=some (.lst (iv (ls ++ [x])))/\ls.length=i/\(∀ y∈ls ++ [x],0≤y/\y≤n)/\Fall (ls ++ [x])/\(ls ++ [x]).getD 0 0=n)/\PenY H' p (m + 1 + 2 * i)/\qbh p H H'/\∃ o1 o2 o3,σ=[some (.ref p),some (.int n),some (.ref l),o1,o2,o3]) ?_ ?_ ?_
 ·exact ⟨⟨[],n,hl1,rfl,by simp; omega,fun i hi=>absurd hi (by simp),rfl⟩,p1,(Same.y s0).trans x1,_,_,_,rfl⟩
 ·rintro i σ H' hi ⟨⟨ls,x,hl',hlen,hb,hf,hz0⟩,p',x',o1,o2,o3,rfl⟩
  have hx:=hb x (by simp)
  have hat:atI (iv (ls ++ [x])) (-1)=some (.int x):=by
   have e:iv (ls ++ [x])=iv ls ++ [.int x]:=by simp
   rw [e]; exact qmj
  refine ⟨_,rfl,p,_,_,rfl,p',by omega,by decide,by decide,fun w H2 w0 w1 p2 x2=>?_⟩
  have hl2:=x2.all l _ hl' hlp
  refine ⟨_,rfl,_,rfl,l,_,_,_,rfl,rfl,hl2,hat,_,rfl,_,rfl,_,rfl,l,_,_,_,rfl,rfl,hl2,hat,_,_,rfl,rfl,p,_,_,rfl,p2,by omega,by omega,by omega,fun r H3 r0 r1 p3 x3=>⟨lz 3 rfl,fun q hq=>?_⟩⟩
  have hl3:=x3.all l _ hl2 hlp
  have s4:=sN hq (.lst [.int 0,.int x,.int r])
  obtain ⟨z,hz,hz'⟩:=qmC (a:=0) (b:=x) (c:=r) (P:=fun z=>0≤z/\z≤x) w0 w1 ⟨by decide,by omega⟩ ⟨by omega,by omega⟩ ⟨r0,by omega⟩
  refine ⟨_,rfl,q,_,_,_,rfl,rfl,uS,hz',?_⟩
  have hl4:=s4 _ _ hl3
  refine ⟨_,rfl,.inl ⟨rfl,_,SqL.of hl4⟩,_,rfl,l,_,_,rfl,rfl,hl4,lzl (by simp; omega),?_⟩
  obtain ⟨u1,u2⟩:=qcR hl hp (((x'.trans x2).trans x3).trans (Same.y s4)) (p3.same s4) (.lst (iv (ls ++ [x]) ++ [.int z]))
  refine ⟨⟨ls ++ [x],z,by rw [uS]; simp,by simp [hlen],fun y hy=>?_,qiN hf hz.2,by rw [gdL (by simp)]; exact hz0⟩,u1.mono (by omega),u2,_,_,_,rfl⟩
  rcases List.mem_append.mp hy with q | q
  ·exact hb y q
  ·have:y=z:=by simpa using q
   omega
 ·rintro σ H' ⟨⟨ls,x,hl',hlen,hb,hf,hz0⟩,p',x',o1,o2,o3,rfl⟩
  refine ⟨_,rfl,l,_,rfl,.inl ⟨SqL.of hl',fun t ht=>?_⟩⟩
  have st:=sN ht (.tup (iv (ls ++ [x])))
  exact k t (ls ++ [x]) _ uS (by simp; omega) (by simp; omega) hb hf hz0 ((p'.same st).mono (by omega)) (x'.trans (Same.y st))
theorem qk6 {ns:List Int}{k:Nat}(h:k≤ns.length):cutV (iv ns) none (some (k:Int))=iv (ns.take k):=by rw [L2.cut_take (by simpa using h),qiD]
theorem qen {ns:List Int}{j:Int}{i:Nat}(h:i < ns.length)(e:j=(i:Int)):atI (iv ns) j=some (.int (ns.getD i 0)):=by rw [e]; exact qdi h
def TlAt (H:Hp)(ls:Addr)(n balls wd:Nat)(T:Nat->Nat->Int):Prop:=∃ xs,H ls=some (.lst xs)/\Rws H xs ((List.range (n + 1)).map fun many=>(List.range wd).map fun j=>T many j)
theorem TlAt.row {H:Hp}{ls:Addr}{n balls wd:Nat}{T:Nat->Nat->Int}{xs:List V}(rw':Rws H xs ((List.range (n + 1)).map fun many=>(List.range wd).map fun j=>T many j)){i:Nat}(hi:i≤n):∃ a,atI xs (i:Int)=some (.ref a)/\H a=some (.lst (iv ((List.range wd).map fun j=>T i j))):=by
 obtain ⟨a,h1,h2⟩:=Rws.get rw' (i:=i) (r:=(List.range wd).map fun j=>T i j) (by rw [List.getElem?_map,List.getElem?_eq_getElem (by simp; omega)]; simp)
 exact ⟨a,qdq h1,h2⟩
def qc4:Sp:=fun vs H Q _=>∃ (ls:Addr) (n balls:Nat) (T:Nat->Nat->Int) (k ahead b:Int),vs=[.ref ls,.int k,.int ahead,.int b]/\TlAt H ls n balls (balls + 1) T/\balls≤100/\n≤12/\1≤k/\k≤10/\0≤ahead/\ahead≤n/\0≤b/\b≤n/\Q (.int (pF n balls T k ahead b)) H
theorem qia {n balls:Nat}{T:Nat->Nat->Int}{k ahead b:Int}(h:b=n\/(balls:Int) < k * (b + 1)):pF n balls T k ahead b=0:=by unfold pF; rw [if_pos h]
theorem qmH {n balls:Nat}{T:Nat->Nat->Int}{k ahead b:Int}(h1:b≠n)(h2:¬ (balls:Int) < k * (b + 1)):pF n balls T k ahead b=T ahead.toNat (b + 1).toNat:=by unfold pF; rw [if_neg (by rintro (z | z); exact h1 z; exact h2 z)]
theorem qka {k b:Int}{balls:Nat}(hk:1≤k)(hb:0≤b)(h:¬ (balls:Int) < k * (b + 1)):b + 1≤balls:=by
 have:1 * (b + 1)≤k * (b + 1):=Int.mul_le_mul_of_nonneg_right hk (by omega)
 omega
theorem qg6 (T':Txt2 mg)(F:FunAt K mg "part_top" ["tails", "k", "ahead", "b"] s_part_top):Cal P w K mg base "part_top" ["tails", "k", "ahead", "b"] 1 qc4:=by
 have S:=qc6
 have T:=T'
 refine F.cal qc6 (fun vs H Q E h=>?_) (fun f cdv A outer s H vs Q E hr h=>?_)
 ·obtain ⟨ls,n,balls,T,k,ahead,b,rfl,_⟩:=h; rfl
 obtain ⟨ls,n,balls,Tf,k,ahead,b,rfl,⟨xs,hls,rws⟩,hb,hn,k1,k2,a0,a1,b0,b1,q⟩:=h
 refine ⟨_,(@pK _ _ _ _ _ (@qgi _ _ (4) (5) _ _ _ _ _ _ _ _ _ _ _ ⋯ (by exact S.nd) ⋯ ⋯ (by decide) ⋯ ⋯ (@pC _ _ _ _ _ (@pP _ _ _ _ _ _ _ _ qch (@qag _ _ _ _ _ _ _ _ _ qai ⋯ (by exact T.z_len) (by exact qa4) (@pC _ _ _ _ _ (pv 0) pN ⋯) ⋯ ⋯ ⋯ ⋯) pI) (@pC _ _ _ _ _ (@pP _ _ _ _ _ _ _ _ qch (@qag _ _ _ _ _ _ _ _ _ qai ⋯ (by exact T.z_len) (by exact qa4) (@pC _ _ _ _ _ (@qax _ _ _ _ _ _ _ qa2 (pv 0) pI (by exact (fun _ _=>rfl))) pN ⋯) ⋯ ⋯ ⋯ ⋯) pI) pN ⋯) ⋯) ⋯ ⋯) (@pK _ _ _ _ _ (@qcr _ _ _ _ _ _ _ _ (@PW.pt _ _ _ (@pw_or _ _ _ _ _ _ _ (@qaL _ _ _ _ _ _ _ _ qfC (pv 3) (pv 4) (by exact (qaO _))) (@qmA _ _ _ _ (@qaL _ _ _ _ _ _ _ _ qfB (@pP _ _ _ _ _ _ _ _ qbf (pv 1) (@pP _ _ _ _ _ _ _ _ qaF (pv 3) pI)) (pv 5) (by exact (qaO _)))))) (@pO _ _ _ (@qan _ _ _ _ pI)) qa8) (@pO _ _ _ (@qan _ _ _ _ (@qax _ _ _ _ _ _ _ qa2 (@qax _ _ _ _ _ _ _ qa2 (pv 0) (pv 2) (by exact (fun _ _=>rfl))) (@pP _ _ _ _ _ _ _ _ qaF (pv 3) pI) (by exact (fun _ _=>rfl))))))),?_⟩
 have xl:=Rws.len rws
 rw [List.length_map,List.length_range] at xl
 obtain ⟨a,ha,har⟩:=TlAt.row (ls:=ls) (balls:=balls) rws (i:=0) (by omega)
 refine ⟨_,rfl,ls,_,rfl,.inl (SqL.of hls),_,_,rfl,rfl,_,rfl,ls,_,_,_,rfl,rfl,hls,ha,a,_,rfl,.inl (SqL.of har),_,_,rfl,rfl,_,_,rfl,?_⟩
 have el:((xs.length:Nat):Int) - 1=n:=by omega
 have eb:(((iv ((List.range (balls + 1)).map fun j=>Tf 0 j)).length:Nat):Int) - 1=balls:=by simp
 dsimp only
 rw [el,eb]
 refine ⟨_,rfl,_,rfl,rfl,_,rfl,?_⟩
 refine ite2 (fun c=>?_) (fun c=>?_)
 ·rw [qia (.inl (V.int.inj (of_decide_eq_true c)))] at q
  exact q
 refine ⟨_,rfl,_,rfl,_,_,rfl,rfl,_,_,rfl,rfl,.inl ⟨by omega,by omega⟩,_,rfl,_,_,rfl,rfl,_,rfl,?_⟩
 refine ite2 (fun c1=>?_) (fun c1=>?_)
 ·rw [qia (.inr (of_decide_eq_true c1))] at q
  exact q
 ·have c2:¬ (balls:Int) < k * (b + 1):=by simpa using c1
  have:=qka k1 b0 c2
  rw [qmH (tstN c) c2] at q
  obtain ⟨an,rfl⟩:∃ x:Nat,ahead=(x:Int):=⟨ahead.toNat,by omega⟩
  obtain ⟨d,hd,hdr⟩:=TlAt.row (ls:=ls) (balls:=balls) rws (i:=an) (by omega)
  refine ⟨_,rfl,_,rfl,ls,_,_,_,rfl,rfl,hls,hd,_,rfl,_,_,rfl,rfl,d,_,_,_,rfl,rfl,hdr,qen (i:=(b + 1).toNat) (by simp; omega) (by omega),?_⟩
  rw [qaa (by simp; omega)]
  simpa using q
end
def sF (qs:List (Int × Int))(balls:Nat)(ls:List Int)(i:Nat):Int:=pF qs.length balls (tF (lcmF qs) qs balls) ((i:Int) + 1) (ls.getD i 0) (ls.getD (i + 1) 0)
def bF (qs:List (Int × Int))(balls:Nat)(ls:List Int):Int × Int:=lowF ((List.range (ls.length - 1)).map fun i=>sF qs balls ls i).sum (lcmF qs ^ balls)
theorem qc0:∀ {c:List Int} (j:Nat),(∀ x∈c,0≤x)->0≤(c.drop j).sum/\(c.drop j).sum≤c.sum
 | [],j,_=>by simp
 | c :: cs,0,h=>by
  have:=qd6 h
  simp only [List.drop_zero]
  omega
 | c :: cs,j + 1,h=>by
  have:=qc0 (c:=cs) j fun x hx=>h x (List.mem_cons_of_mem _ hx)
  have:=h c List.mem_cons_self
  simp only [List.drop_succ_cons,List.sum_cons]
  omega
theorem tF_ok {qs:List (Int × Int)}{B:Int}(rl:Rl qs B)(ch:Ch (lcmF qs) qs)(balls many j:Nat):0≤tF (lcmF qs) qs balls many j/\tF (lcmF qs) qs balls many j≤lcmF qs ^ balls:=by
 obtain ⟨c0,c1⟩:=qee many ch.nn
 have c2:=ch.sm
 unfold tF
 generalize ((chF (lcmF qs) qs).take many).sum=t at c0 c1
 have nn:=qkw c0 (show 0≤lcmF qs - t by omega) balls
 have:=qc0 j nn
 have e:=qi6 (t:=t) (u:=lcmF qs - t) balls
 rw [show t + (lcmF qs - t)=lcmF qs by omega] at e
 rw [<- e]
 exact this
theorem sF_ok {qs:List (Int × Int)}{B:Int}(rl:Rl qs B)(ch:Ch (lcmF qs) qs)(balls:Nat)(ls:List Int)(i:Nat):0≤sF qs balls ls i/\sF qs balls ls i≤lcmF qs ^ balls:=by
 unfold sF pF
 split
 ·exact ⟨by decide,Int.le_of_lt (Int.pow_pos (qcH rl).1)⟩
 ·exact tF_ok rl ch balls _ _
theorem qcX {qs:List (Int × Int)}{B:Int}(rl:Rl qs B)(ch:Ch (lcmF qs) qs)(balls:Nat)(ls:List Int):∀ m:Nat,0≤((List.range m).map fun i=>sF qs balls ls i).sum/\((List.range m).map fun i=>sF qs balls ls i).sum≤m * lcmF qs ^ balls
 | 0=>by simp
 | m + 1=>by
  have ih:=qcX rl ch balls ls m
  have h:=sF_ok rl ch balls ls m
  rw [List.range_succ,List.map_append,List.sum_append,Int.natCast_add,Int.add_mul]
  simp only [List.map_cons,List.map_nil,List.sum_cons,List.sum_nil]
  omega
theorem qjk {i:Int}(h:i.natAbs < 10 ^ 150):PyData.showable (.int i)=true/\PyData.leavesShort 200 (.int i)=true:=by
 refine ⟨?_,?_⟩
 ·simp only [PyData.showable,decide_eq_true_eq]
  by_cases z:i.natAbs=0
  ·rw [z]; decide
  ·exact (Nat.log2_lt z).mpr (Nat.lt_of_lt_of_le h (Nat.le_trans (show (10:Nat) ^ 150≤2 ^ 500 by decide +kernel) (Nat.pow_le_pow_right (by decide) (by decide))))
 ·have e:=int_text_length_le10 (a:=i) (k:=150) (by decide) h
  simp only [PyData.leavesShort,decide_eq_true_eq]
  show (Str.ofString (toString i)).length≤200
  rw [PySem.ofString_length]; omega
theorem qkk {q:Int × Int}(ha:q.1.natAbs < 10 ^ 150)(hb:q.2.natAbs < 10 ^ 150):Good (dp q):=by
 obtain ⟨a1,a2⟩:=qjk ha
 obtain ⟨b1,b2⟩:=qjk hb
 have hs:(dp q).leavesShort 200=true:=by simp only [dp,PyData.leavesShort,PyData.leavesShortAll,Bool.and_eq_true]; exact ⟨by simpa [PyData.leavesShort] using a2,by simpa [PyData.leavesShort] using b2,trivial⟩
 have h1:=PyData.shown_le_bulk 200 (by decide) (dp q) hs
 refine ⟨by simp only [dp,PyData.showable,PyData.showableAll,Bool.and_eq_true]; exact ⟨by simpa [PyData.showable] using a1,by simpa [PyData.showable] using b1,trivial⟩,fun z=>by simp [dp,PyData.hasDict,PyData.hasDictAll] at z,by simp [dp,PyData.depth,PyData.depthAll],?_⟩
 have:(dp q).bulk≤100:=by simp [dp,PyData.bulk,PyData.bulkAll]
 have h2:=Nat.mul_le_mul_left (200 + 2) this
 rw [sizeLine_eq]
 omega
theorem qdM {S L:Int}(hS:0≤S)(hL:0 < L)(n:Nat):qat S (List.replicate n L)=lowF S (L ^ n):=by
 obtain ⟨x,rfl⟩:∃ x:Nat,S=(x:Int):=⟨S.toNat,by omega⟩
 obtain ⟨y,rfl⟩:∃ y:Nat,L=(y:Int):=⟨L.toNat,by omega⟩
 have:=qdL (t:=x) (b:=y) (by omega) n
 rw [this]
 simp
section
variable {P:Program}{w:World}{K:PySem.W.Frag}{mg:Str->Option Value}{base:Heap}
def qhO:Sp:=fun vs H Q _=>∃ (r st:Addr) (qs:List (Int × Int)) (B:Int) (balls:Nat) (ls:List Int),vs=[.ref r,.int balls,.ref st]/\RuAt H r qs B/\balls≤24/\H st=some (.tup (iv ls))/\2≤ls.length/\ls.length≤7/\(∀ x∈ls,0≤x/\x≤qs.length) /\
 ∀ (v:V) (H':Hp),Same H H'->PrAt H' v (bF qs balls ls)->Q v H'
theorem qj1 (T:Txt2 mg)(C_tails_of:Cal P w K mg base "tails_of" ["rule", "balls"] 3 qc3)(C_part_top:Cal P w K mg base "part_top" ["tails", "k", "ahead", "b"] 1 qc4)(C_parted:Cal P w K mg base "parted" ["top", "bottoms"] 2 qca)
  (F:FunAt K mg "bound" ["rule", "balls", "layers"] s_bound):Cal P w K mg base "bound" ["rule", "balls", "layers"] 4 qhO:=by
 have S:=qga
 refine F.cal qga (fun vs H Q E h=>?_) (fun f cdv A outer s H vs Q E hr h=>?_)
 ·obtain ⟨r,st,qs,B,balls,ls,rfl,_⟩:=h; rfl
 obtain ⟨r,st,qs,B,balls,ls,rfl,ru,hb,hst,l1,l2,hls,k⟩:=h
 obtain ⟨xs,hx,prs,rl,ch,hn,hn1⟩:=id ru
 obtain ⟨L0,L1,_⟩:=qcH rl
 refine ⟨_,(@pK _ _ _ _ _ (@qbH _ _ _ _ _ _ (@cc _ _ _ _ _ _ _ _ _ _ (by exact C_tails_of) (by exact (hr.mono (by decide))) (@pC _ _ _ _ _ (pv 0) (@pC _ _ _ _ _ (pv 1) pN ⋯) ⋯) ⋯ ⋯ ⋯ ⋯) (@qbs _ _ _ _ _ _ ⋯ (@qab _ _ _ _ _ (@pG _ _ (4) _ (by exact S.nd) ⋯ ⋯ ⋯) (@qab _ _ _ _ _ (@pG _ _ (5) _ (by exact S.nd) ⋯ ⋯ ⋯) qas ⋯) ⋯) ⋯ ⋯) ⋯ ⋯ ⋯) (@pK _ _ _ _ _ (@qlp _ _ _ _ _ _ _ _ _ _ _ _ _ _ _ (3) _ (by exact S.nd) ⋯ ⋯ ⋯ (by exact (fun _ _ h=>h)) (by decide +kernel) ⋯ (by decide +kernel) (by exact qaJ rfl) (by exact Sees.frees ["k"] [("tails",4),("layers",2)] (qal ⟨rfl,rfl⟩ (qal ⟨rfl,rfl⟩ qaK))) (@qdd _ _ _ _ _ _ _ ⋯ (by exact T.z_range) (@pC _ _ _ _ _ pI (@pC _ _ _ _ _ (@qag _ _ _ _ _ _ _ _ _ qai ⋯ (by exact T.z_len) (by exact qa4) (@pC _ _ _ _ _ (pv 2) pN ⋯) ⋯ ⋯ ⋯ ⋯) pN ⋯) ⋯) ⋯ ⋯) (fun _ _ _ _ _ => @pG _ _ (0) _ (by exact (show (["k", "tails", "layers"]:List Str).Nodup by decide +kernel)) ⋯ ⋯ ⋯) (fun _ _ _ _ _=>qaG) (fun _ _ _ _ _=>(@cc _ _ _ _ _ _ _ _ _ _ (by exact C_part_top) (by exact (hr.mono (by decide))) (@pC _ _ _ _ _ (pv 1) (@pC _ _ _ _ _ (pv 0) (@pC _ _ _ _ _ (@qax _ _ _ _ _ _ _ qa9 (pv 2) (@pP _ _ _ _ _ _ _ _ qch (pv 0) pI) (by exact (fun _ _=>rfl))) (@pC _ _ _ _ _ (@qax _ _ _ _ _ _ _ qa9 (pv 2) (pv 0) (by exact (fun _ _=>rfl))) pN ⋯) ⋯) ⋯) ⋯) ⋯ ⋯ ⋯ ⋯)) ⋯ ⋯ ⋯) (@pO _ _ _ (@qan _ _ _ _ (@cc _ _ _ _ _ _ _ _ _ _ (by exact C_parted) (by exact (hr.mono (by decide))) (@pC _ _ _ _ _ (@qag _ _ _ _ _ _ _ _ _ (qcn ⋯) ⋯ (by exact T.z_sum) (by exact qe8) (@pC _ _ _ _ _ (pv 3) pN ⋯) ⋯ ⋯ ⋯ ⋯) (@pC _ _ _ _ _ (@pP _ _ _ _ _ _ _ _ qib (@qbb _ _ _ _ (@pC _ _ _ _ _ (pv 5) pN ⋯)) (pv 1)) pN ⋯) ⋯) ⋯ ⋯ ⋯ ⋯))))),?_⟩
 refine ⟨_,rfl,_,rfl,r,qs,B,balls,rfl,ru,by omega,fun t c ys H2 s2 ht hc rws=>?_⟩
 refine ⟨t,_,rfl,SqT.of ht,rfl,_,_,rfl,_,_,rfl,rfl,?_⟩
 have hst2:=s2 _ _ hst
 have ivl:(iv ls).length=ls.length:=by simp
 refine ⟨_,rfl,st,_,rfl,.inr (SqT.of hst2),_,_,rfl,⟨by omega,by omega,by omega,by omega⟩,qbD (n:=(((iv ls).length:Int) - 1).toNat) (lo:=1) (fs:=[some (.ref c),some (.ref st)]) (fun acc i zs H'=>Same H2 H'/\zs=iv ((List.range i).map fun i=>sF qs balls ls i)) (by omega) ?_ ?_ ?_⟩
 ·intro acc hacc
  exact ⟨sN hacc _,rfl⟩
 ·rintro acc i zs H' hacc hi hlen ⟨s',rfl⟩ hacc' Q' hQ
  have hi1:i + 1 < ls.length:=by omega
  have m1:=hls (ls.getD i 0) (by rw [qaa (by omega)]; exact List.getElem_mem _)
  have m2:=hls (ls.getD (i + 1) 0) (by rw [qaa hi1]; exact List.getElem_mem _)
  refine ⟨_,rfl,_,rfl,_,rfl,_,rfl,_,_,rfl,rfl,st,_,_,_,rfl,rfl,s' _ _ hst2,qen (i:=i) (by omega) (by omega),_,rfl,_,rfl,st,_,_,_,rfl,rfl,s' _ _ hst2,qen (i:=i + 1) hi1 (by omega),c,qs.length,balls,tF (lcmF qs) qs balls,_,_,_,rfl,⟨ys,s' _ _ hc,Rws.same s' rws⟩,by omega,hn,by omega,by omega,m1.1,m1.2,m2.1,m2.2,?_⟩
  refine hQ _ H' hacc' ⟨qao hacc s' _,?_⟩
  rw [List.range_succ,List.map_append]
  unfold sF
  rw [show (1:Int) + (i:Int)=(i:Int) + 1 by omega]
  simp
 ·rintro acc zs H' hacc ⟨s',rfl⟩ hacc' hlen
  rw [show (((iv ls).length:Int) - 1).toNat=ls.length - 1 by omega] at hacc'
  obtain ⟨s0,s1⟩:=qcX rl ch balls ls (ls.length - 1)
  refine ⟨_,rfl,acc,_,rfl,hacc',_,rfl,lz 1 rfl,fun q1 hq1=>?_⟩
  have s3:=sN hq1 (.lst [.int (lcmF qs)])
  refine ⟨_,rfl,q1,_,_,rfl,rfl,uS,by omega,by omega,lzz (by simp; omega),fun q2 hq2=>?_⟩
  rw [rep1,Int.toNat_natCast]
  have s4:=sN hq2 (.lst (iv (List.replicate balls (lcmF qs))))
  refine ⟨_,q2,_,rfl,uS,fun b hbm=>?_,fun v H3 s5 hv=>?_⟩
  ·rw [(List.mem_replicate.mp hbm).2]; exact ⟨by omega,qgM (by omega) (by omega),.inl (by omega)⟩
  ·rw [qdM s0 L0] at hv
   exact k v H3 (s2.trans (s'.trans (s3.trans (s4.trans s5)))) hv
end
end My
namespace My
open PySem L2 MA Srt PySem.Spec
def minL (l:List Int):Int:=l.min?.getD 0
theorem qlS {l:List Int}{M:Int}(h1:M∈l)(h2:∀ a∈l,M≤a):minL l=M:=by
 unfold minL
 rw [List.min?_eq_some_iff.mpr ⟨h1,h2⟩]
 rfl
theorem qlR {l:List Int}(h:l≠[]):minL l∈l/\∀ a∈l,minL l≤a:=by
 unfold minL
 cases e:l.min? with
 | none=>exact absurd (List.min?_eq_none_iff.mp e) h
 | some M=>exact List.min?_eq_some_iff.mp e
section
variable (n balls:Nat)(T:Nat->Nat->Int)
def qcx (es:List (Nat × Int))(k b:Nat):List Int:=(es.filter fun p=>decide (b≤p.1)).map fun p=>p.2 + pF n balls T ((k:Int) + 1) p.1 b
def entF:Nat->List (Nat × Int)
 | 0=>[(n,0)]
 | k + 1=>(List.range (n + 1)).map fun b=>(b,minL (qcx n balls T (entF k) k b))
theorem qiQ:∀ k,(entF n balls T k).length≤n + 1
 | 0=>by simp [entF]
 | k + 1=>by simp [entF]
theorem ql7:∀ k,∀ p∈entF n balls T k,p.1≤n
 | 0=>by simp [entF]
 | k + 1=>by
  intro p hp
  obtain ⟨b,hb,rfl⟩:=List.mem_map.mp hp
  have:=List.mem_range.mp hb
  show b≤n
  omega
theorem ql8:∀ k,∃ t,(n,t)∈entF n balls T k
 | 0=>⟨0,by simp [entF]⟩
 | k + 1=>⟨_,List.mem_map.mpr ⟨n,by simp,rfl⟩⟩
theorem qmg (k:Nat){b:Nat}(h:b≤n):qcx n balls T (entF n balls T k) k b≠[]:=by
 obtain ⟨t,ht⟩:=ql8 n balls T k
 intro z
 have:(n,t)∈(entF n balls T k).filter fun p=>decide (b≤p.1):=List.mem_filter.mpr ⟨ht,by simpa using h⟩
 have:=List.mem_map_of_mem (f:=fun p:Nat × Int=>p.2 + pF n balls T ((k:Int) + 1) p.1 b) this
 unfold qcx at z
 rw [z] at this
 simp at this
structure Wt (k b:Nat)(t:Int)(ls:List Int):Prop where
 len:ls.length=k + 1
 fst:ls.getD 0 0=n
 lst:ls.getD k 0=b
 fal:Fall ls
 bnd:∀ x∈ls,0≤x/\x≤n
 sum:t=((List.range k).map fun i:Nat=>pF n balls T ((i:Int) + 1) (ls.getD i 0) (ls.getD (i + 1) 0)).sum
theorem Wt.zero:Wt n balls T 0 n 0 [(n:Int)]:=⟨rfl,rfl,rfl,fun i hi=>by simp at hi,fun x hx=>by simp at hx; omega,rfl⟩
theorem Wt.step {k a b:Nat}{t:Int}{ls:List Int}(h:Wt n balls T k a t ls)(ha:a≤n)(hb:b≤a):Wt n balls T (k + 1) b (t + pF n balls T ((k:Int) + 1) a b) (ls ++ [(b:Int)]):=by
 have hl:=h.len
 have hlast:=h.lst
 refine ⟨by simp [hl],?_,?_,fun i hi=>?_,fun x hx=>?_,?_⟩
 ·rw [gdL (by omega)]; exact h.fst
 ·rw [gdR (by omega),hl]; simp
 ·rw [List.length_append,hl] at hi
  have hi':i < k + 1:=by simpa using hi
  by_cases e:i=k
  ·subst e
   rw [gdR (by omega),gdL (by omega),hl,hlast]
   simp; omega
  ·rw [gdL (by omega),gdL (by omega)]
   exact h.fal i (by omega)
 ·rcases List.mem_append.mp hx with z | z
  ·exact h.bnd x z
  ·rw [List.mem_singleton.mp z]; omega
 ·rw [List.range_succ,List.map_append,List.sum_append,h.sum]
  have e1:(List.range k).map (fun i:Nat=>pF n balls T ((i:Int) + 1) ((ls ++ [(b:Int)]).getD i 0) ((ls ++ [(b:Int)]).getD (i + 1) 0))=(List.range k).map fun i:Nat=>pF n balls T ((i:Int) + 1) (ls.getD i 0) (ls.getD (i + 1) 0):=by
   refine List.map_congr_left fun i hi=>?_
   have:=List.mem_range.mp hi
   rw [gdL (by omega),gdL (by omega)]
  rw [e1]
  have e2:(ls ++ [(b:Int)]).getD k 0=a:=by rw [gdL (by omega)]; exact hlast
  have e3:(ls ++ [(b:Int)]).getD (k + 1) 0=b:=by rw [gdR (by omega),hl]; simp
  simp only [List.map_cons,List.map_nil,List.sum_cons,List.sum_nil,e2,e3]
  omega
end
theorem qhc {i:Nat}{σ:St}{d:Addr}{kvs:List (Key × V)}{H:Hp}{R:It->Hp->Prop}(C:Obj->Hp->Prop)(hv:σ[i]?=some (some (.ref d)))(hd:H d=some (.dK kvs)\/∃ o,H d=some (.frz o (.dK kvs)))(h1:H d=some (.dK kvs)->∀ o,C o (upd H d (.frz o (.dK kvs))))(h2:∀ o,H d=some (.frz o (.dK kvs))->C o H)(key:∀ o h,C o h->R (Iti d o) h) :
  qk1 (tVar i) σ H R:=⟨.ref d,hv,d,kvs,rfl,hd.elim (fun z => .inl ⟨z,fun o=>key o _ (h1 z o)⟩) fun ⟨o,z⟩ => .inr ⟨o,z,key o _ (h2 o z)⟩⟩
theorem cb1 {r:List V->Hp->VK->Prop}{te:TE}{σ:St}{H:Hp}{Q:VK}(h:te σ H fun x H1=>r [x] H1 Q):tCB r (qlg te tNil) σ H Q:=h
def compR (σ0:St->St)(g:TG)(tc:TT)(te:TE)(σ:St)(Q:VK)(J:It)(H1:Hp):Prop:=∀ p,H1 p=none->∃ W:Nat->Nat->List V->St->Hp->Prop,(∃ m,W 0 m [] (σ0 σ) (upd H1 p (.lst [])))/\∀ i m ys σ' H',W i m ys σ' H' ->
 (J.stop i H'/\Q (.ref p) H')\/(J.go i H'/\∀ x H2,J.yld i H' x H2->g x σ' H2 fun σ2 H3=>tc σ2 H3 fun b H4=>if b=true then te σ2 H4 fun v H5=>ys.length < sizeLine/\H5 p=some (.lst ys)/\(∃ m',m' < m/\W (i + 1) m' (ys ++ [v]) σ2 (upd H5 p (.lst (ys ++ [v]))))
  else ∃ m',m' < m/\W (i + 1) m' ys σ2 H4)
theorem qm6 {σ0:St->St}{wi:TI}{g:TG}{tc:TT}{te:TE}{σ:St}{H:Hp}{Q:VK}(h:wi σ H (compR σ0 g tc te σ Q)):qjv σ0 wi g tc te σ H Q:=h
def Tk (H H':Hp):Prop:=∀ b ys,H b=some (.tup ys)->H' b=some (.tup ys)
theorem Tk.trans {H H' H'':Hp}(a:Tk H H')(b:Tk H' H''):Tk H H'':=fun c ys e=>b c ys (a c ys e)
theorem Tk.of {H H':Hp}(s:Same H H'):Tk H H':=fun c ys e=>s _ _ e
theorem Tk.upd {H:Hp}{d:Addr}{o u:HO}(h:H d=some o)(n:∀ ys,o ≠ .tup ys):Tk H (upd H d u):=fun c ys e=>by rw [uE (fun z=>by subst z; rw [h] at e; exact n ys (Option.some.inj e))]; exact e
theorem TopT.tk {H H':Hp}(k:Tk H H'){v:V}{q:Int × List Int}(h:TopT H v q):TopT H' v q:=let ⟨a,b,e,h1,h2⟩:=h; ⟨a,b,e,k _ _ h1,k _ _ h2⟩
section
variable (n balls:Nat)(T:Nat->Nat->Int)
def qhk (H:Hp)(k:Nat)(kw:Int × V)(p:Nat × Int):Prop:=kw.1=p.1/\∃ ls,TopT H kw.2 (p.2,ls)/\Wt n balls T k p.1 p.2 ls
theorem qe3 {H H':Hp}(k:Tk H H'){i:Nat}{kws:List (Int × V)}{es:List (Nat × Int)}(h:Paired (qhk n balls T H i) kws es):Paired (qhk n balls T H' i) kws es:=Paired.mapP h fun _ _ ⟨e,ls,h1,h2⟩=>⟨e,ls,TopT.tk k h1,h2⟩
theorem qi8 {es:List (Nat × Int)}{j:Nat}{p:Nat × Int}(h:es[j]?=some p)(k b:Nat):qcx n balls T (es.take (j + 1)) k b=qcx n balls T (es.take j) k b ++ if b≤p.1 then [p.2 + pF n balls T ((k:Int) + 1) p.1 b] else []:=by
 unfold qcx
 rw [List.take_add_one,h,List.filter_append,List.map_append]
 congr 1
 by_cases c:b≤p.1 <;> simp [c]
theorem qjG {news:List (Int × V)}{b:Nat}{v:V}(h:∀ kw∈news,kw.1 < b):putK (news.map kN) (.inl (b:Int)) v=(news ++ [((b:Int),v)]).map kN:=by
 unfold putK
 rw [if_neg]
 ·simp [kN]
 ·simp only [List.any_map,List.any_eq_true,not_exists,not_and]
  intro x hx z
  have:=h x hx
  simp [kN] at z
  omega
end
section
variable {P:Program}{w:World}{K:PySem.W.Frag}{mg:Str->Option Value}{base:Heap}
def qd8:Sp:=fun vs H Q _=>∃ (r:Addr) (qs:List (Int × Int)) (B:Int) (balls m:Nat),vs=[.ref r,.int balls,.int m]/\RuAt H r qs B/\balls≤24/\1≤m/\m≤6 /\
 ∀ (t a:Addr) (v:V) (ls:List Int) (tp:Int) (H':Hp),Same H H'->H' t=some (.tup [v,.ref a])->H' a=some (.tup (iv ls))->(0,tp)∈entF qs.length balls (tF (lcmF qs) qs balls) m->Wt qs.length balls (tF (lcmF qs) qs balls) m 0 tp ls->PrAt H' v (lowF tp (lcmF qs ^ balls))->Q (.ref t) H'
theorem qij (T:Txt2 mg)(C_tails_of:Cal P w K mg base "tails_of" ["rule", "balls"] 3 qc3)(C_part_top:Cal P w K mg base "part_top" ["tails", "k", "ahead", "b"] 1 qc4)(C_parted:Cal P w K mg base "parted" ["top", "bottoms"] 2 qca)
  (F:FunAt K mg "least_layers" ["rule", "balls", "m"] s_least_layers):Cal P w K mg base "least_layers" ["rule", "balls", "m"] 4 qd8:=by
 have S:=qbJ
 refine F.cal qbJ (fun vs H Q E h=>?_) (fun f cdv A outer s H vs Q E hr h=>?_)
 ·obtain ⟨r,qs,B,balls,m,rfl,_⟩:=h; rfl
 obtain ⟨r,qs,B,balls,m,rfl,ru,hb,m1,m6,k⟩:=h
 obtain ⟨xs,hx,prs,rl,ch,hn,hn1⟩:=id ru
 obtain ⟨L0,L1,_⟩:=qcH rl
 have hu1:=ql1 hr
 have hu2:=qk2 hr
 refine ⟨_,(@pK _ _ _ _ _ (@qbH _ _ _ _ _ _ (@cc _ _ _ _ _ _ _ _ _ _ (by exact C_tails_of) (by exact (hr.mono (by decide))) (@pC _ _ _ _ _ (pv 0) (@pC _ _ _ _ _ (pv 1) pN ⋯) ⋯) ⋯ ⋯ ⋯ ⋯) (@qbs _ _ _ _ _ _ ⋯ (@qab _ _ _ _ _ (@pG _ _ (6) _ (by exact S.nd) ⋯ ⋯ ⋯) (@qab _ _ _ _ _ (@pG _ _ (7) _ (by exact S.nd) ⋯ ⋯ ⋯) qas ⋯) ⋯) ⋯ ⋯) ⋯ ⋯ ⋯) (@pK _ _ _ _ _ (@pZ _ _ (3) _ _ _ _ (by exact S.nd) ⋯ ⋯ (@qag _ _ _ _ _ _ _ _ _ qai ⋯ (by exact T.z_len) (by exact qa4) (@pC _ _ _ _ _ (pv 0) pN ⋯) ⋯ ⋯ ⋯ ⋯) ⋯ ⋯) (@pK _ _ _ _ _ (@pZ _ _ (4) _ _ _ _ (by exact S.nd) ⋯ ⋯ (@qlw _ _ _ _ _ (@qjI _ _ _ _ _ _ _ _ _ (pv 3) (@qaN _ _ _ _ _ (@pC _ _ _ _ _ pI (@pC _ _ _ _ _ (@qaN _ _ _ _ _ (@pC _ _ _ _ _ (pv 3) pN ⋯)) pN ⋯) ⋯)) qlq) ⋯ ⋯ (by simp) (by decide)) ⋯ ⋯) (@pK _ _ _ _ _ (@qbj _ _ _ _ _ _ _ _ (by exact PassesOwn.never) ⋯ (@qdd _ _ _ _ _ _ _ ⋯ (by exact T.z_range) (@pC _ _ _ _ _ pI (@pC _ _ _ _ _ (@pP _ _ _ _ _ _ _ _ qaF (pv 2) pI) pN ⋯) ⋯) ⋯ ⋯) (@pG _ _ (5) _ (by exact S.nd) ⋯ ⋯ ⋯) (@pO _ _ _ (@pZ _ _ (4) _ _ _ _ (by exact S.nd) ⋯ ⋯ (@qh7 _ _ _ _ _ _ _ _ _ _ _ _ _ _ _ ⋯ (by exact (fun _ _ h=>h)) (by decide +kernel) ⋯ (by decide +kernel) (by exact qaJ rfl) (by exact Sees.frees ["b"] [("least",4),("tails",6),("k",5)] (qal ⟨rfl,rfl⟩ (qal ⟨rfl,rfl⟩ (qal ⟨rfl,rfl⟩ qaK)))) (@qaA _ _ _ _ _ _ ⋯ (by exact T.z_range) (@pC _ _ _ _ _ (@pP _ _ _ _ _ _ _ _ qaF (pv 3) pI) pN ⋯) ⋯) (fun _ _ _ _ _=>(@pG _ _ (0) _ (by exact (show (["b", "least", "tails", "k"]:List Str).Nodup by decide +kernel)) ⋯ ⋯ ⋯)) (fun _ _ _ _ _=>qaG) (fun _ _ _ _ _=>(pv 0)) (fun _ _ _ _ _=>(@qag _ _ _ _ _ _ _ _ _ (qi9 ⋯ hu2) ⋯ (by exact T.z_min) (by exact qk7) (@pC _ _ _ _ _ (@qaE _ _ _ _ _ _ _ _ _ _ _ _ _ ⋯ (by exact (fun _ _ h=>h)) (by decide +kernel) ⋯ (by decide +kernel) (by exact qaJ rfl) (by exact Sees.frees ["ahead", "top", "layers"] [("tails",2),("k",3),("b",0)] (qal ⟨rfl,rfl⟩ (qal ⟨rfl,rfl⟩ (qal ⟨rfl,rfl⟩ qaK)))) (@qjL _ _ _ _ _ _ _ _ (pv 1) ⋯ ⋯) (fun _ _ _ _ _ => @qaY _ _ _ _ _ (2) ⋯ (@qab _ _ _ _ _ (@pG _ _ (0) _ (by exact (show (["ahead", "top", "layers", "tails", "k", "b"]:List Str).Nodup by decide +kernel)) ⋯ ⋯ ⋯) (@qab _ _ _ _ _ (@qaY _ _ _ _ _ (2) ⋯ (@qab _ _ _ _ _ (@pG _ _ (1) _ (by exact (show (["ahead", "top", "layers", "tails", "k", "b"]:List Str).Nodup by decide +kernel)) ⋯ ⋯ ⋯) (@qab _ _ _ _ _ (@pG _ _ (2) _ (by exact (show (["ahead", "top", "layers", "tails", "k", "b"]:List Str).Nodup by decide +kernel)) ⋯ ⋯ ⋯) qas ⋯) ⋯) ⋯ ⋯) qas ⋯) ⋯) ⋯ ⋯) (fun _ _ _ _ _=>(@qcq _ _ _ (@qaL _ _ _ _ _ _ _ _ qg3 (pv 0) (pv 5) (by exact (qaO _))))) (fun _ _ _ _ _=>(@qaN _ _ _ _ _ (@pC _ _ _ _ _ (@pP _ _ _ _ _ _ _ _ qaF (pv 1) (@cc _ _ _ _ _ _ _ _ _ _ (by exact C_part_top) (by exact (hr.mono (by decide))) (@pC _ _ _ _ _ (pv 3) (@pC _ _ _ _ _ (pv 4) (@pC _ _ _ _ _ (pv 0) (@pC _ _ _ _ _ (pv 5) pN ⋯) ⋯) ⋯) ⋯) ⋯ ⋯ ⋯ ⋯)) (@pC _ _ _ _ _ (@pP _ _ _ _ _ _ _ _ qic (pv 2) (@qaN _ _ _ _ _ (@pC _ _ _ _ _ (pv 5) pN ⋯))) pN ⋯) ⋯))) ⋯) pN ⋯) ⋯ ⋯ ⋯ ⋯)) ⋯) ⋯ ⋯)) ⋯) (@pK _ _ _ _ _ (@qbH _ _ _ _ _ _ (@qlx _ _ _ _ _ _ (by exact hu1) (pv 4) pI (by exact (fun _ _=>rfl))) (@qbs _ _ _ _ _ _ ⋯ (@qab _ _ _ _ _ (@pG _ _ (8) _ (by exact S.nd) ⋯ ⋯ ⋯) (@qab _ _ _ _ _ (@pG _ _ (9) _ (by exact S.nd) ⋯ ⋯ ⋯) qas ⋯) ⋯) ⋯ ⋯) ⋯ ⋯ ⋯) (@pO _ _ _ (@qan _ _ _ _ (@qaN _ _ _ _ _ (@pC _ _ _ _ _ (@cc _ _ _ _ _ _ _ _ _ _ (by exact C_parted) (by exact (hr.mono (by decide))) (@pC _ _ _ _ _ (pv 8) (@pC _ _ _ _ _ (@pP _ _ _ _ _ _ _ _ qib (@qbb _ _ _ _ (@pC _ _ _ _ _ (pv 7) pN ⋯)) (pv 1)) pN ⋯) ⋯) ⋯ ⋯ ⋯ ⋯) (@pC _ _ _ _ _ (pv 9) pN ⋯) ⋯))))))))),?_⟩
 refine ⟨_,rfl,_,rfl,r,qs,B,balls,rfl,ru,by omega,fun t c ys H2 s2 ht hc rws=>?_⟩
 refine ⟨t,_,rfl,SqT.of ht,rfl,_,_,rfl,_,_,rfl,rfl,?_⟩
 have xl:xs.length=qs.length:=Prs.len prs
 refine ⟨_,rfl,r,_,rfl,.inr (SqT.of (s2 _ _ hx)),?_⟩
 rw [xl]
 intro d hd
 have s_H3:=sN hd (.dK [])
 have g_d:upd H2 d (.dK []) d=some (.dK []):=uS
 generalize upd H2 d (.dK [])=H3 at s_H3 g_d ⊢
 refine ⟨_,rfl,_,rfl,lz 1 rfl,fun t1 ht1=>?_⟩
 have s_H4:=sN ht1 (.tup [.int (qs.length:Int)])
 have g_t1:upd H3 t1 (.tup [.int (qs.length:Int)]) t1=some (.tup [.int (qs.length:Int)]):=uS
 generalize upd H3 t1 (.tup [.int (qs.length:Int)])=H4 at s_H4 g_t1 ⊢
 refine ⟨lz 2 rfl,fun t2 ht2=>?_⟩
 have s_H5:=sN ht2 (.tup [.int 0,.ref t1])
 have g_t2:upd H4 t2 (.tup [.int 0,.ref t1]) t2=some (.tup [.int 0,.ref t1]):=uS
 generalize upd H4 t2 (.tup [.int 0,.ref t1])=H5 at s_H5 g_t2 ⊢
 have g_d:=(s_H4.trans s_H5) _ _ g_d
 have g_t1:=(s_H5) _ _ g_t1
 have s25:Same H2 H5:=s_H3.trans (s_H4.trans s_H5)
 refine ⟨g_d,[(.inl (qs.length:Int),.ref t2)],rfl,by simp,?_⟩
 rw [show qdg [] [((.inl (qs.length:Int):Key),V.ref t2)]=[((qs.length:Int),V.ref t2)].map kN from rfl]
 have nd:H2 d=none:=hd
 have s26:=qao nd s25 (.dK ([((qs.length:Int),V.ref t2)].map kN))
 have k56:Tk H5 (upd H5 d (.dK ([((qs.length:Int),V.ref t2)].map kN))):=Tk.upd g_d (fun ys z=>nomatch z)
 have e0:Paired (qhk qs.length balls (tF (lcmF qs) qs balls) (upd H5 d (.dK ([((qs.length:Int),V.ref t2)].map kN))) 0) [((qs.length:Int),V.ref t2)] (entF qs.length balls (tF (lcmF qs) qs balls) 0) :=
  .cons ⟨rfl,[(qs.length:Int)],⟨t2,t1,rfl,k56 _ _ g_t2,k56 _ _ g_t1⟩,Wt.zero _ _ _⟩ .nil
 have hd6:upd H5 d (.dK ([((qs.length:Int),V.ref t2)].map kN)) d=some (.dK ([((qs.length:Int),V.ref t2)].map kN)):=uS
 generalize upd H5 d (.dK ([((qs.length:Int),V.ref t2)].map kN))=H6 at s26 k56 e0 hd6 ⊢
 refine ⟨_,rfl,_,_,rfl,rfl,?_⟩
 refine ⟨_,_,rfl,⟨by decide,by decide,by omega,by omega⟩,qfQ (qbp (lo:=1) (n:=((m:Int) + 1 - 1).toNat)) (fun i σ H'=>Same H2 H'/\∃ (d':Addr) (kws:List (Int × V)) (o5:Option V),σ=[some (.ref r),some (.int balls),some (.int m),some (.int (qs.length:Int)),some (.ref d'),o5,some (.ref c),some (.int (lcmF qs)),none,none]/\H2 d'=none/\H' d'=some (.dK (kws.map kN))/\Paired (qhk qs.length balls (tF (lcmF qs) qs balls) H' i) kws (entF qs.length balls (tF (lcmF qs) qs balls) i)) ⟨s26,d,_,_,rfl,nd,hd6,e0⟩ (fun _ _ _ _=>trivial) ?_ ?_⟩
 ·rintro i x σ X7 H7 hi ⟨s27,d',kws,o5,rfl,nd',hd7,en7⟩ ⟨rfl,rfl⟩
  have kl:kws.length=(entF qs.length balls (tF (lcmF qs) qs balls) i).length:=Paired.length en7
  have el:=qiQ qs.length balls (tF (lcmF qs) qs balls) i
  refine gN_ ?_
  refine ⟨_,rfl,_,_,rfl,rfl,_,rfl,by omega,by omega,fun p hp=>?_⟩
  have np:H2 p=none:=none_of s27 hp
  have pd:p≠d':=fun z=>by subst z; rw [hd7] at hp; cases hp
  have s_H8:=sN hp (.dK [])
  have g_p:upd H7 p (.dK []) p=some (.dK []):=uS
  generalize upd H7 p (.dK [])=H8 at s_H8 g_p ⊢
  have s28:=s27.trans s_H8
  have hd8:=s_H8 _ _ hd7
  have en8:=qe3 _ _ _ (Tk.of s_H8) en7
  refine qel (qbp (lo:=0) (n:=((qs.length:Int) + 1).toNat)) (fun j σ' H'=>(∃ o0,σ'=[o0,some (.ref d'),some (.ref c),some (.int (1 + (i:Int)))])/\Same H2 H'/\(H' d'=some (.dK (kws.map kN))\/∃ o,H' d'=some (.frz o (.dK (kws.map kN))))/\Paired (qhk qs.length balls (tF (lcmF qs) qs balls) H' i) kws (entF qs.length balls (tF (lcmF qs) qs balls) i)/\∃ news,H' p=some (.dK (news.map kN))/\Paired (qhk qs.length balls (tF (lcmF qs) qs balls) H' (i + 1)) news ((entF qs.length balls (tF (lcmF qs) qs balls) (i + 1)).take j)) ⟨⟨_,rfl⟩,s28,.inl hd8,en8,[],g_p,.nil⟩ (fun _ _ _ _=>trivial) ?_ ?_
  ·rintro j x σ' X9 H9 hj ⟨⟨o0,rfl⟩,s29,hd9,en9,news,hp9,nw9⟩ ⟨rfl,rfl⟩ R hR
   have hj':j≤qs.length:=by omega
   refine gN_ (tT_ (iteT ?_))
   refine ⟨_,rfl,?_⟩
   refine cb1 (qm6 (qhc (i:=1) (kvs:=kws.map kN) (fun o h=>Same H2 h/\h d'=some (.frz o (.dK (kws.map kN)))/\Tk H9 h/\h p=some (.dK (news.map kN))) ⋯ hd9 (fun z o=>⟨qao nd' s29 _,uS,Tk.upd z (fun ys z=>nomatch z),(uE pd).trans hp9⟩) (fun o z=>⟨s29,z,fun _ _ e=>e,hp9⟩) ?_))
   rintro o H10 ⟨s210,hd10,k910,hp10⟩
   have en10:=qe3 _ _ _ k910 en9
   have nw10:=qe3 _ _ _ k910 nw9
   refine qb0 (qd0 (kws:=kws)) (fun acc e zs σ2 H'=>Same H2 H'/\H' d'=some (.frz o (.dK (kws.map kN)))/\Tk H10 H'/\H' p=some (.dK (news.map kN))/\(∃ o0 o1 o2,σ2=[o0,o1,o2,some (.ref c),some (.int (1 + (i:Int))),some (.int (0 + (j:Int)))])/\∃ qz,Paired (TopT H') zs qz/\qz.map (·.1)=qcx qs.length balls (tF (lcmF qs) qs balls) ((entF qs.length balls (tF (lcmF qs) qs balls) i).take e) i j/\∀ q∈qz,Wt qs.length balls (tF (lcmF qs) qs balls) (i + 1) j q.1 q.2) (by omega) ?_ ?_ ?_ ?_
   ·intro acc hacc
    have sn:=sN hacc (.lst [])
    exact ⟨s210.trans sn,sn _ _ hd10,Tk.of sn,sn _ _ hp10,⟨_,_,_,rfl⟩,[],.nil,rfl,fun q hq=>by simp at hq⟩
   ·rintro acc e zs σ2 H' hacc ⟨_,h2,_⟩
    exact h2
   ·rintro acc e zs σ2 H' x H'' hacc he hlen ⟨q1,q2,q3,q4,⟨o0,o1,o2,rfl⟩,qz,q5,q6,q7⟩ hH' ⟨pt,kw,rfl,npt,rfl,hkw⟩ Q1 Q2 h1 h2
    obtain ⟨pe,hpe,ek,ls,⟨ta,tb,eta,hta,htb⟩,wt⟩:=qaz en10 hkw
    have sn:=sN npt (.tup [.int kw.1,kw.2])
    have kt:=q3.trans (Tk.of sn)
    have hta':=kt _ _ hta
    have htb':=kt _ _ htb
    have ka:=ql7 _ _ _ _ pe (List.mem_of_getElem? hpe)
    obtain ⟨a1,kv⟩:=kw
    dsimp only at ek eta
    subst ek eta
    have hpt:upd H' pt (.tup [.int (pe.1:Int),.ref ta]) pt=some (.tup [.int (pe.1:Int),.ref ta]):=uS
    dsimp only at sn kt hta' htb'
    have r1:=q1.trans sn
    have r2:=sn _ _ q2
    have r4:=sn _ _ q4
    have r5:=Paired.mapP q5 fun _ _ h=>TopT.tk (Tk.of sn) h
    have r6:=sn _ _ hH'
    generalize upd H' pt (.tup [.int (pe.1:Int),.ref ta])=G1 at sn kt hta' htb' hpt r1 r2 r4 r5 r6 ⊢
    refine ⟨pt,_,rfl,hpt,rfl,_,_,rfl,_,_,rfl,ta,_,rfl,hta',rfl,_,_,rfl,_,_,rfl,rfl,rfl,?_⟩
    refine ⟨_,rfl,_,rfl,_,_,rfl,rfl,_,rfl,?_⟩
    have cs:=qi8 qs.length balls (tF (lcmF qs) qs balls) hpe i j
    refine ite2 (fun cc=>?_) (fun cc=>?_)
    rotate_left 1
    ·refine h2 _ _ r6 ⟨r1,r2,kt,r4,⟨_,_,_,rfl⟩,qz,r5,?_,q7⟩
     rw [cs,if_neg (fun z=>cc (decide_eq_true (by omega))),List.append_nil]
     exact q6
    have cb:j≤pe.1:=by have:=of_decide_eq_true cc; omega
    refine ⟨_,rfl,_,rfl,_,rfl,_,rfl,_,rfl,c,qs.length,balls,tF (lcmF qs) qs balls,_,_,_,rfl,⟨ys,r1 _ _ hc,Rws.same r1 rws⟩,by omega,hn,by omega,by omega,by omega,by omega,by omega,by omega,_,_,rfl,rfl,?_⟩
    refine ⟨_,rfl,_,rfl,lz 1 rfl,fun u hu=>?_⟩
    have s_G2:=sN hu (.tup [.int (0 + (j:Int))])
    have g_u:upd G1 u (.tup [.int (0 + (j:Int))]) u=some (.tup [.int (0 + (j:Int))]):=uS
    generalize upd G1 u (.tup [.int (0 + (j:Int))])=G2 at s_G2 g_u ⊢
    have htb2:=s_G2 _ _ htb'
    have lsl:=wt.len
    refine ⟨tb,u,_,_,rfl,rfl,htb2,g_u,by simp; omega,fun c3 G3 s3 hc3=>?_⟩
    refine ⟨lz 2 rfl,fun w' hw'=>?_⟩
    have s_G4:=sN hw' (.tup [.int (pe.2 + pF qs.length balls (tF (lcmF qs) qs balls) (1 + (i:Int)) (pe.1:Int) (0 + (j:Int))),.ref c3])
    have g_w':upd G3 w' (.tup [.int (pe.2 + pF qs.length balls (tF (lcmF qs) qs balls) (1 + (i:Int)) (pe.1:Int) (0 + (j:Int))),.ref c3]) w'=some (.tup [.int (pe.2 + pF qs.length balls (tF (lcmF qs) qs balls) (1 + (i:Int)) (pe.1:Int) (0 + (j:Int))),.ref c3]):=uS
    generalize upd G3 w' (.tup [.int (pe.2 + pF qs.length balls (tF (lcmF qs) qs balls) (1 + (i:Int)) (pe.1:Int) (0 + (j:Int))),.ref c3])=G4 at s_G4 g_w' ⊢
    have s14:Same G1 G4:=s_G2.trans (s3.trans s_G4)
    have hc4:=s_G4 _ _ hc3
    have r6':=s14 _ _ r6
    refine h1 _ _ _ r6' ?_
    have nacc:∀ {b:Addr} {ob:HO},G4 b=some ob->ob ≠ .lst zs->upd G4 acc (.lst (zs ++ [.ref w'])) b=some ob:=fun e n=>by rw [uE (qdt e r6' n)]; exact e
    have k5:Tk G4 (upd G4 acc (.lst (zs ++ [.ref w']))):=fun b ws e=>nacc e (fun z=>nomatch z)
    have na2:H2 acc=none:=none_of s210 hacc
    refine ⟨qao na2 (r1.trans s14) _,nacc (s14 _ _ r2) (fun z=>nomatch z),kt.trans ((Tk.of s14).trans k5),nacc (s14 _ _ r4) (fun z=>nomatch z),⟨_,_,_,rfl⟩,qz ++ [(pe.2 + pF qs.length balls (tF (lcmF qs) qs balls) ((i:Int) + 1) pe.1 j,ls ++ [(j:Int)])],?_,?_,?_⟩
    ·refine Paired.snoc (Paired.mapP r5 fun _ _ h=>TopT.tk ((Tk.of s14).trans k5) h) ⟨w',c3,rfl,?_,?_⟩
     ·have:=k5 _ _ g_w'
      rw [show (1:Int) + (i:Int)=(i:Int) + 1 by omega,show (0:Int) + (j:Int)=j by omega] at this
      exact this
     ·have:=k5 _ _ hc4
      rw [show (0:Int) + (j:Int)=j by omega] at this
      simpa using this
    ·rw [cs,if_pos cb,List.map_append,q6]; rfl
    ·intro q hq
     rcases List.mem_append.mp hq with z | z
     ·exact q7 q z
     ·rw [List.mem_singleton.mp z]; exact Wt.step _ _ _ wt ka cb
   ·rintro acc zs σ2 H' hacc ⟨q1,q2,q3,q4,⟨o0,o1,o2,rfl⟩,qz,q5,q6,q7⟩ hH' hlen
    rw [List.take_of_length_le (by omega)] at q6
    have cne:=qmg qs.length balls (tF (lcmF qs) qs balls) i hj'
    have zne:zs≠[]:=fun z=>by
     subst z
     cases q5
     exact cne q6.symm
    refine ⟨acc,zs,qz,rfl,hH',q5,zne,fun v q hv hq top best=>?_⟩
    have em:q.1=minL (qcx qs.length balls (tF (lcmF qs) qs balls) (entF qs.length balls (tF (lcmF qs) qs balls) i) i j):=by
     refine (qlS ?_ ?_).symm
     ·rw [<- q6]; exact List.mem_map_of_mem (f:=fun x:Int × List Int=>x.1) hq
     ·rw [<- q6]
      intro a ha
      obtain ⟨r',hr',rfl⟩:=List.mem_map.mp ha
      exact best r' hr'
    have kz:=k910.trans q3
    have nlen:news.length=j:=by
     rw [Paired.length nw9,List.length_take,Nat.min_eq_left]
     simp [entF]; omega
    refine ⟨.inl (0 + (j:Int)),news.map kN,rfl,q4,by rw [List.length_map]; omega,?_⟩
    have e0j:(0:Int) + (j:Int)=j:=by omega
    rw [e0j]
    have nk:∀ kw∈news,kw.1 < (j:Int):=fun kw hkw=>by
     obtain ⟨i2,hi2,rfl⟩:=List.getElem_of_mem hkw
     obtain ⟨pe,hpe,ek,_⟩:=qaz nw9 (List.getElem?_eq_getElem hi2)
     rw [ek]
     have hl2:i2 < j:=by omega
     rw [List.getElem?_take_of_lt hl2] at hpe
     simp only [entF,List.getElem?_map] at hpe
     rw [List.getElem?_range (by omega)] at hpe
     cases hpe
     show ((i2:Nat):Int) < j
     omega
    rw [qjG nk]
    have k6:Tk H' (upd H' p (.dK ((news ++ [((j:Int),v)]).map kN))):=Tk.upd q4 (fun ys z=>nomatch z)
    refine hR _ _ ⟨⟨_,rfl⟩,qao np q1 _,.inr ⟨o,by rw [uE (Ne.symm pd)]; exact q2⟩,qe3 _ _ _ (kz.trans k6) en9,news ++ [((j:Int),v)],uS,?_⟩
    have hge:(entF qs.length balls (tF (lcmF qs) qs balls) (i + 1))[j]?=some (j,minL (qcx qs.length balls (tF (lcmF qs) qs balls) (entF qs.length balls (tF (lcmF qs) qs balls) i) i j)):=by
     simp only [entF,List.getElem?_map]
     rw [List.getElem?_range (by omega)]
     rfl
    rw [List.take_add_one,hge]
    refine Paired.snoc (qe3 _ _ _ (kz.trans k6) nw9) ⟨rfl,q.2,?_,?_⟩
    ·have:=TopT.tk k6 top
     rw [<- em]
     exact this
    ·have:=q7 q hq
     rw [<- em]
     exact this
  ·rintro σ' H9 ⟨⟨o0,rfl⟩,s29,hd9,en9,news,hp9,nw9⟩
   have et:(entF qs.length balls (tF (lcmF qs) qs balls) (i + 1)).take ((qs.length:Int) + 1).toNat=entF qs.length balls (tF (lcmF qs) qs balls) (i + 1):=List.take_of_length_le (by have:=qiQ qs.length balls (tF (lcmF qs) qs balls) (i + 1); omega)
   rw [et] at nw9
   exact ⟨s29,p,news,_,rfl,np,hp9,nw9⟩
 ·rintro σ H7 ⟨s27,d',kws,o5,rfl,nd',hd7,en7⟩
  have em:((m:Int) + 1 - 1).toNat=m:=by omega
  rw [em] at en7
  obtain ⟨m',rfl⟩:∃ m',m=m' + 1:=⟨m - 1,by omega⟩
  have hge:(entF qs.length balls (tF (lcmF qs) qs balls) (m' + 1))[0]?=some (0,minL (qcx qs.length balls (tF (lcmF qs) qs balls) (entF qs.length balls (tF (lcmF qs) qs balls) m') m' 0)):=by
   simp only [entF,List.getElem?_map]
   rw [List.getElem?_range (by omega)]
   rfl
  have kne:0 < kws.length:=by rw [Paired.length en7]; exact (List.getElem?_eq_some_iff.mp hge).1
  obtain ⟨kw,hkw⟩:∃ kw,kws[0]?=some kw:=⟨_,List.getElem?_eq_getElem kne⟩
  obtain ⟨pe,hpe,ek,ls,⟨ta,tb,eta,hta,htb⟩,wt⟩:=qaz en7 hkw
  rw [hge] at hpe
  cases hpe
  have hval:valV (kws.map kN) (.inl 0:Key)=some kw.2:=by
   cases kws with
   | nil=>simp at kne
   | cons a rest =>
    have:a=kw:=by simpa using hkw
    subst this
    rw [List.map_cons]
    exact qb7 (by show (Sum.inl a.1:Key) = .inl 0; rw [ek]; rfl)
  refine ⟨_,rfl,d',_,rfl,(.inl ⟨kws.map kN,.inl 0,.inl hd7,rfl,hval.symm⟩:DGet H7 d' (.int 0) (some kw.2)),?_⟩
  rw [eta]
  refine ⟨ta,_,rfl,SqT.of hta,rfl,_,_,rfl,_,_,rfl,rfl,?_⟩
  refine ⟨_,rfl,_,rfl,lz 1 rfl,fun q1 hq1=>?_⟩
  have s_H8:=sN hq1 (.lst [.int (lcmF qs)])
  have g_q1:upd H7 q1 (.lst [.int (lcmF qs)]) q1=some (.lst [.int (lcmF qs)]):=uS
  generalize upd H7 q1 (.lst [.int (lcmF qs)])=H8 at s_H8 g_q1 ⊢
  refine ⟨_,rfl,q1,_,_,rfl,rfl,g_q1,by omega,by omega,lzz (by simp; omega),fun q2 hq2=>?_⟩
  rw [rep1,Int.toNat_natCast]
  have s_H9:=sN hq2 (.lst (iv (List.replicate balls (lcmF qs))))
  have g_q2:upd H8 q2 (.lst (iv (List.replicate balls (lcmF qs)))) q2=some (.lst (iv (List.replicate balls (lcmF qs)))):=uS
  generalize upd H8 q2 (.lst (iv (List.replicate balls (lcmF qs))))=H9 at s_H9 g_q2 ⊢
  have tn:0≤minL (qcx qs.length balls (tF (lcmF qs) qs balls) (entF qs.length balls (tF (lcmF qs) qs balls) m') m' 0):=by
   have:=(qcX rl ch balls ls (m' + 1)).1
   have e:=wt.sum
   dsimp only at e
   rw [e]
   exact this
  refine ⟨_,q2,_,rfl,g_q2,fun b hbm=>?_,fun v H10 s5 hv=>?_⟩
  ·rw [(List.mem_replicate.mp hbm).2]; exact ⟨by omega,qgM (by omega) (by omega),.inl (by omega)⟩
  rw [qdM tn L0] at hv
  refine ⟨_,rfl,lz 2 rfl,fun t3 ht3=>?_⟩
  have s_H11:=sN ht3 (.tup [v,.ref tb])
  have g_t3:upd H10 t3 (.tup [v,.ref tb]) t3=some (.tup [v,.ref tb]):=uS
  generalize upd H10 t3 (.tup [v,.ref tb])=H11 at s_H11 g_t3 ⊢
  have sA:Same H7 H11:=s_H8.trans (s_H9.trans (s5.trans s_H11))
  obtain ⟨vv,rfl,hvv⟩:=hv
  exact k t3 tb _ ls _ H11 (s2.trans (s27.trans sA)) g_t3 (sA _ _ htb) (List.mem_of_getElem? hge) wt ⟨vv,rfl,s_H11 _ _ hvv⟩
end
end My
namespace My
open PySem L2 MA Srt
structure LdOk (ns:List Int)(n:Nat)(b:Int):Prop where
 len:ns.length=n
 nn:∀ x∈ns,0≤x
 dn:ns.Pairwise (· ≥ ·)
 sum:ns.sum=b
theorem qjx {ns:List Int}{j:Nat}(h:j < ns.length):(ns.set j (ns.getD j 0 + 1)).sum=ns.sum + 1:=by
 induction ns generalizing j with
 | nil=>simp at h
 | cons a ns ih =>
  cases j with
  | zero=>simp; omega
  | succ j =>
   have:=ih (j:=j) (by simpa using h)
   simp only [List.set_cons_succ,List.sum_cons,List.getD_cons_succ]
   rw [this]; omega
theorem qlO {ns:List Int}{j:Nat}(h:∀ x∈ns,0≤x):∀ x∈ns.set j (ns.getD j 0 + 1),0≤x:=by
 intro x hx
 rcases List.mem_or_eq_of_mem_set hx with z | z
 ·exact h x z
 ·subst z
  rw [List.getD_eq_getElem?_getD]
  cases e:ns[j]? with
  | none=>simp
  | some y=>have:=h y (List.mem_of_getElem? e); simp; omega
structure Cnt (mm:Mp)(n:Nat)(b:Int)(hi:Int):Prop where
 nd:(qaf mm).Nodup
 ld:∀ k∈qaf mm,LdOk k n b
 pos:∀ k∈qaf mm,0 < getM mm k
 sum:(qau mm).sum≤hi
theorem qgE {c:List Int}{n:Nat}{l:List Int}{q:List Int × Int}(h:q∈qbm c n l):∃ r,r < n/\q=(putL l r,c.getD r 0)/\0 < c.getD r 0:=by
 unfold qbm at h
 obtain ⟨r,hr,hq⟩:=List.mem_flatMap.mp h
 split at hq
 ·rename_i z
  exact ⟨r,List.mem_range.mp hr,List.mem_singleton.mp hq,z⟩
 ·simp at hq
theorem qgf {l:List Int}{n:Nat}{b:Int}(h:LdOk l n b){r:Nat}(hr:r < n):LdOk (putL l r) n (b + 1):=by
 have hl:r < l.length:=by rw [h.len]; exact hr
 refine ⟨by rw [qed,h.len],fun x hx=>qlO h.nn x ((qbO _).mem_iff.mp hx),qe2 _,?_⟩
 unfold putL
 rw [qd4 (qbO _),qjx hl,h.sum]
theorem qhH {rows:Mp}(h:∀ q∈rows,0 < q.2){k:List Int}(hk:k∈qaf rows):0 < qfn rows k:=by
 unfold qfn
 induction rows with
 | nil=>simp [qaf] at hk
 | cons r rows ih =>
  have nn:∀ (l:Mp),(∀ q∈l,0 < q.2)->0≤(l.map fun r=>if r.1=k then r.2 else 0).sum:=by
   intro l
   induction l with
   | nil=>intro _; simp
   | cons q l ih =>
    intro h
    rw [List.map_cons,List.sum_cons]
    have h1:=ih fun x hx=>h x (by simp [hx])
    have h2:=h q (by simp)
    split <;> omega
  rw [List.map_cons,List.sum_cons]
  have h1:=nn rows fun x hx=>h x (by simp [hx])
  have h2:=h r (by simp)
  by_cases e:r.1=k
  ·rw [if_pos e]; omega
  ·rw [if_neg e]
   have:k∈qaf rows:=by
    simp only [qaf,List.map_cons,List.mem_cons] at hk
    rcases hk with z | z
    ·exact absurd z.symm e
    ·exact z
   have:=ih (fun x hx=>h x (by simp [hx])) this
   omega
theorem qdQ {m:Mp}(nd:(qaf m).Nodup)(pos:∀ k∈qaf m,0 < getM m k):∀ p∈m,0 < p.2:=fun p hp=>by
 rw [<- qcS nd hp]; exact pos _ (List.mem_map_of_mem hp)
theorem qkv {w:List Int}{m:Mp}{n:Nat}{b hi:Int}(h:Cnt m n b hi)(hw:w.length=n)(w0:∀ x∈w,0≤x):Cnt (qb4 w m) n (b + 1) ((qau m).sum * w.sum)/\(qau (qb4 w m)).sum=(qau m).sum * w.sum:=by
 have pm:=qdQ h.nd h.pos
 have rp:∀ q∈qa6 m (qbm w w.length),0 < q.2:=by
  intro q hq
  unfold qa6 at hq
  obtain ⟨p,hp,hq⟩:=List.mem_flatMap.mp hq
  obtain ⟨g,hg,rfl⟩:=List.mem_map.mp hq
  obtain ⟨r,_,rfl,z⟩:=qgE hg
  exact Int.mul_pos (pm p hp) z
 have es:(qau (qb4 w m)).sum=(qau m).sum * w.sum:=by
  unfold qb4
  rw [qgD,qhq]
  exact qhy fun k _=>qiJ w0 k
 refine ⟨⟨qdR _,fun k hk=>?_,fun k hk=>?_,by rw [es]; exact Int.le_refl _⟩,es⟩
 ·unfold qb4 at hk
  rw [qdk,qeR] at hk
  obtain ⟨l,hl,hk⟩:=hk
  obtain ⟨q,hq,rfl⟩:=List.mem_map.mp hk
  obtain ⟨r,hr,rfl,_⟩:=qgE hq
  exact qgf (h.ld l hl) (by omega)
 ·unfold qb4 at hk ⊢
  rw [qdk] at hk
  rw [qkn]
  exact qhH rp hk
theorem qkZ {w:List Int}{m:Mp}{n:Nat}{b hi:Int}(h:Cnt m n b hi)(hw:w.length=n)(w0:∀ x∈w,0≤x):∀ k:Nat,Cnt (itF w k m) n (b + k) ((qau m).sum * w.sum ^ k)/\(qau (itF w k m)).sum=(qau m).sum * w.sum ^ k
 | 0=>⟨⟨h.nd,fun k hk=>by have:=h.ld k hk; simpa [itF] using this,h.pos,by simp [itF]⟩,by simp [itF]⟩
 | k + 1=>by
  obtain ⟨c,e⟩:=qkZ h hw w0 k
  obtain ⟨c2,e2⟩:=qkv c hw w0
  have ee:(qau (itF w (k + 1) m)).sum=(qau m).sum * w.sum ^ (k + 1):=by
   show (qau (qb4 w (itF w k m))).sum=_
   rw [e2,e,Int.pow_succ,Int.mul_assoc]
  refine ⟨⟨c2.nd,fun k' hk=>?_,c2.pos,by rw [ee]; exact Int.le_refl _⟩,ee⟩
  have:=c2.ld k' hk
  rw [show b + ((k + 1:Nat):Int)=b + (k:Int) + 1 by omega]
  exact this
theorem qlV {m:Mp}(nd:(qaf m).Nodup)(pos:∀ k∈qaf m,0 < getM m k){k:List Int}:getM m k≤(qau m).sum:=by
 have key:∀ (m:Mp),(∀ p∈m,0 < p.2)->0≤(qau m).sum/\getM m k≤(qau m).sum:=by
  intro m
  induction m with
  | nil=>intro _; simp [qau,qgC]
  | cons p m ih =>
   intro h
   obtain ⟨h1,h2⟩:=ih fun x hx=>h x (by simp [hx])
   have h3:=h p (by simp)
   rw [qaI]
   have:(qau (p :: m)).sum=p.2 + (qau m).sum:=by simp [qau]
   rw [this]
   split <;> omega
 exact (key m (qdQ nd pos)).2
theorem qkV {α:Type}[DecidableEq α]:∀ {a b:List α},a.Nodup->(∀ x∈a,x∈b)->a.length≤b.length
 | [],_,_,_=>Nat.zero_le _
 | x :: a,b,nd,h=>by
  have hx:=h x (by simp)
  have:=qkV (a:=a) (b:=b.erase x) (List.nodup_cons.mp nd).2 fun y hy=>by
   have ne:y≠x:=fun z=>(List.nodup_cons.mp nd).1 (z ▸ hy)
   exact (List.mem_erase_of_ne ne).mpr (h y (by simp [hy]))
  rw [List.length_erase_of_mem hx] at this
  have:0 < b.length:=List.length_pos_of_mem hx
  simp; omega
def allL:Nat->Nat->Nat->List (List Int)
 | 0,b,_=>if b=0 then [[]] else []
 | n + 1,b,mx=>(List.range (min b mx + 1)).flatMap fun x=>(allL n (b - x) x).map fun l=>(x:Int) :: l
def cntL:Nat->Nat->Nat->Nat
 | 0,b,_=>if b=0 then 1 else 0
 | n + 1,b,mx=>((List.range (min b mx + 1)).map fun x=>cntL n (b - x) x).sum
theorem qjn:∀ n b mx,(allL n b mx).length=cntL n b mx
 | 0,b,_=>by unfold allL cntL; split <;> rfl
 | n + 1,b,mx=>by
  unfold allL cntL
  rw [List.length_flatMap]
  congr 1
  exact List.map_congr_left fun x _=>by rw [List.length_map,qjn n]
theorem qd5 {l:List Int}(h:∀ x∈l,0≤x):0≤l.sum:=by
 induction l with
 | nil=>simp
 | cons a l ih=>rw [List.sum_cons]; have:=ih fun x hx=>h x (by simp [hx]); have:=h a (by simp); omega
theorem qjm:∀ (n b mx:Nat) (l:List Int),LdOk l n b->(∀ x∈l,x≤mx)->l∈allL n b mx
 | 0,b,mx,l,h,_=>by
  have:l=[]:=List.length_eq_zero_iff.mp h.len
  subst this
  have:b=0:=by have:=h.sum; simp at this; omega
  subst this
  simp [allL]
 | n + 1,b,mx,l,h,hm=>by
  cases l with
  | nil=>have:=h.len; simp at this
  | cons a l =>
   have a0:=h.nn a (by simp)
   have hs:=h.sum
   rw [List.sum_cons] at hs
   have s0:=qd5 (l:=l) fun x hx=>h.nn x (by simp [hx])
   have am:=hm a (by simp)
   unfold allL
   rw [List.mem_flatMap]
   refine ⟨a.toNat,List.mem_range.mpr (by omega),List.mem_map.mpr ⟨l,qjm n _ _ l ⟨by have:=h.len; simpa using this,fun x hx=>h.nn x (by simp [hx]),(List.pairwise_cons.mp h.dn).2,by omega⟩ fun x hx=>?_,?_⟩⟩
   ·have:=(List.pairwise_cons.mp h.dn).1 x hx; omega
   ·rw [show ((a.toNat:Nat):Int)=a by omega]
theorem qdN {l:List Int}(h:∀ x∈l,0≤x):∀ x∈l,x≤l.sum:=by
 induction l with
 | nil=>simp
 | cons a l ih =>
  intro x hx
  have:=ih (fun x hx=>h x (by simp [hx]))
  have s0:=qd5 (l:=l) fun x hx=>h x (by simp [hx])
  have a0:=h a (by simp)
  rw [List.sum_cons]
  rcases List.mem_cons.mp hx with rfl | hx
  ·omega
  ·have:=this x hx; omega
theorem qmf {m:Mp}{n b:Nat}{hi:Int}(h:Cnt m n b hi):m.length≤cntL n b b:=by
 rw [<- qjn]
 have:=qkV h.nd fun k hk=>qjm n b b k (h.ld k hk) fun x hx=>by have:=qdN (h.ld k hk).nn x hx; rw [(h.ld k hk).sum] at this; exact this
 simpa [qaf] using this
theorem cap12:∀ n:Fin 7,∀ b:Fin 13,cntL n.val b.val b.val≤60:=by decide +kernel
def mulM (f:List Int->Int)(m:Mp):Mp:=m.map fun p=>(p.1,p.2 * f p.1)
theorem qlQ (f:List Int->Int)(m:Mp)(k:List Int):hasM (mulM f m) k=hasM m k:=by unfold hasM mulM; rw [List.any_map]; rfl
theorem qiq (f:List Int->Int):∀ (m:Mp) (k:List Int),getM (mulM f m) k=getM m k * f k
 | [],k=>by show (0:Int)=0 * f k; omega
 | p :: m,k=>by
  show getM ((p.1,p.2 * f p.1) :: mulM f m) k=_
  rw [qaI,qaI,qiq f m k]
  by_cases e:p.1=k
  ·rw [if_pos e,if_pos e,e]
  ·rw [if_neg e,if_neg e]
theorem mul_add (f:List Int->Int)(m:Mp)(r:List Int × Int):addM (mulM f m) (r.1,r.2 * f r.1)=mulM f (addM m r):=by
 unfold addM putM
 dsimp only
 rw [qlQ,qiq]
 by_cases h:hasM m r.1=true
 ·rw [if_pos h,if_pos h]; unfold mulM; rw [List.map_map,List.map_map]
  refine List.map_congr_left fun p _=>?_
  show (if p.1=r.1 then _ else _)=((if p.1=r.1 then (p.1,getM m r.1 + r.2) else p).1,(if p.1=r.1 then (p.1,getM m r.1 + r.2) else p).2 * f (if p.1=r.1 then (p.1,getM m r.1 + r.2) else p).1)
  by_cases e:p.1=r.1
  ·simp [e,Int.add_mul]
  ·simp only [if_neg e]
 ·rw [if_neg h,if_neg h]; unfold mulM; rw [List.map_append,<- Int.add_mul]; rfl
theorem qj7 (f:List Int->Int)(rows:Mp):gath (mulM f rows)=mulM f (gath rows):=by
 have:∀ (rows:Mp) (m:Mp),(mulM f rows).foldl addM (mulM f m)=mulM f (rows.foldl addM m):=by
  intro rows
  induction rows with
  | nil=>intro m; rfl
  | cons r rows ih=>intro m; show (mulM f rows).foldl addM (addM (mulM f m) (r.1,r.2 * f r.1))=_; rw [mul_add,ih]; rfl
 exact this rows []
theorem qju (f:List Int->Int)(rows:Mp):tot (gath rows) f=tot rows f:=by
 have e:∀ m:Mp,tot m f=(qau (mulM f m)).sum:=fun m=>by unfold tot qau mulM; rw [List.map_map]; rfl
 rw [e,e,<- qj7,qgD]
theorem qf2 {w:List Int}(w0:∀ r,0≤w.getD r 0)(l:List Int)(f:List Int->Int):∀ n,tot (qbm w n l) f=((List.range n).map fun r=>w.getD r 0 * f (putL l r)).sum
 | 0=>rfl
 | n + 1=>by
  have ih:=qf2 w0 l f n
  rw [qbt,qaR]
  unfold tot at ih ⊢
  rw [List.map_append,List.sum_append,List.sum_append,ih]
  congr 1
  by_cases z:0 < w.getD n 0
  ·rw [if_pos z]; rfl
  ·rw [if_neg z]
   have e:w.getD n 0=0:=by have:=w0 n; omega
   rw [e]; simp
theorem qfX {α:Type}(f h:α->Int):∀ l:List α,List.zipWith (· * ·) (l.map f) (l.map h)=l.map fun a=>f a * h a
 | []=>rfl
 | a :: l=>by simp only [List.map_cons,List.zipWith_cons_cons,qfX f h l]
theorem qiV {qs:List Rat}:∀ q∈qs,(q.den:Int) ∣ botF qs:=by
 unfold botF
 exact (qbN qs 1 (by decide)).2.2
theorem qit {g:List Int->Int}{F:Mp}(nd:(qaf F).Nodup){W:Int}(hW:0 < W):mnF (sprF F W) (nmF g (sprF F W))=Rat.divInt (tot F g) W:=by
 have b0:=Mn.b0 (sprF F W)
 unfold mnF
 rw [Rat.divInt_eq_divInt_iff (by omega) (by omega),qf1 nd]
 unfold dotZ tpF nmF
 rw [List.map_map,qfX]
 have hd:=qiV (qs:=(sprF F W).map (·.2))
 generalize botF ((sprF F W).map (·.2))=B at hd b0
 have e1:((sprF F W).map fun a=>((fun q:Rat=>q.num * (B / (q.den:Int))) ∘ fun x=>x.2) a * g a.1)=(rise (qaf F)).map fun k=>(Rat.divInt (getM F k) W).num * (B / ((Rat.divInt (getM F k) W).den:Int)) * g k:=by
  unfold sprF; rw [List.map_map]; rfl
 rw [e1,<- qcZ,<- qcZ,List.map_map,List.map_map]
 have e2:(rise (qaf F)).map ((fun a=>a * W) ∘ fun k=>(Rat.divInt (getM F k) W).num * (B / ((Rat.divInt (getM F k) W).den:Int)) * g k)=(rise (qaf F)).map ((fun a=>a * B) ∘ fun k=>getM F k * g k):=by
  refine List.map_congr_left fun k hk=>?_
  show (Rat.divInt (getM F k) W).num * (B / ((Rat.divInt (getM F k) W).den:Int)) * g k * W=getM F k * g k * B
  have:=tp_at (L:=B) (q:=Rat.divInt (getM F k) W) (hd _ (List.mem_map.mpr ⟨(k,Rat.divInt (getM F k) W),List.mem_map.mpr ⟨k,hk,rfl⟩,rfl⟩)) hW rfl
  rw [Int.mul_right_comm,this,Int.mul_right_comm]
 rw [e2]
 exact qd4 ((qaX _).map _)
theorem qkz {k:Int}{l l':List Int}(h:l.Perm l'):gBox k l=gBox k l':=by
 unfold gBox; rw [(h.filter _).length_eq]
theorem qbn (k a:Int)(l:List Int):gBox k (a :: l)=(if k≤a then 1 else 0) + gBox k l:=by
 unfold gBox
 rw [List.filter_cons]
 by_cases c:k≤a
 ·simp only [decide_eq_true c,if_true,if_pos c,List.length_cons]; omega
 ·simp only [decide_eq_false c,if_neg c]; simp
theorem qjh (k:Int):∀ (l:List Int) (i:Nat),i < l.length->gBox k (l.set i (l.getD i 0 + 1))=gBox k l + if l.getD i 0 + 1=k then 1 else 0
 | [],i,h=>by simp at h
 | a :: l,0,h=>by
  simp only [List.set_cons_zero,List.getD_cons_zero]
  rw [qbn,qbn]
  split <;> split <;> split <;> omega
 | a :: l,i + 1,h=>by
  simp only [List.set_cons_succ,List.getD_cons_succ]
  rw [qbn,qbn,qjh k l i (by simpa using h)]
  omega
theorem qji {k:Int}{l:List Int}{r:Nat}(h:r < l.length):gBox k (putL l r)=gBox k l + if l.getD r 0 + 1=k then 1 else 0:=by
 unfold putL; rw [qkz (qbO _),qjh k l r h]
theorem qgN (k:Int):∀ (l:List Int) (r:Nat),l.Pairwise (· ≥ ·)->r < l.length->k≤l.getD r 0->(r:Int) + 1≤gBox k l
 | [],r,_,h,_=>by simp at h
 | a :: l,0,_,_,h=>by
  rw [qbn,if_pos (by simpa using h)]
  have:0≤gBox k l:=by unfold gBox; omega
  omega
 | a :: l,r + 1,p,hr,h=>by
  have hr':r < l.length:=by simpa using hr
  rw [List.getD_cons_succ] at h
  have ih:=qgN k l r (List.pairwise_cons.mp p).2 hr' h
  have ha:=(List.pairwise_cons.mp p).1 _ (show l.getD r 0∈l by rw [List.getD_eq_getElem?_getD,List.getElem?_eq_getElem hr']; exact List.getElem_mem hr')
  rw [qbn,if_pos (by omega)]
  omega
theorem qm9 (k:Int)(l:List Int):0≤gBox k l:=by unfold gBox; omega
theorem qna (k:Int)(l:List Int):gBox k l≤l.length:=by unfold gBox; have:=List.length_filter_le (fun x=>decide (k≤x)) l; omega
theorem qjg {k:Int}(hk:0≤k):∀ {l:List Int},(∀ x∈l,0≤x)->k * gBox k l≤l.sum
 | [],_=>by simp [gBox]
 | a :: l,h=>by
  have ih:=qjg hk (l:=l) fun x hx=>h x (by simp [hx])
  have:=h a (by simp)
  rw [qbn,List.sum_cons,Int.mul_add]
  split
  ·omega
  ·omega
theorem qmi {l:List Int}(h:∀ x∈l,0≤x):gBox 0 l=l.length:=by
 unfold gBox; rw [List.filter_eq_self.mpr fun x hx=>by simpa using h x hx]
theorem qky {k:Int}(hk:1≤k)(n:Nat):gBox k (List.replicate n 0)=0:=by
 unfold gBox
 rw [List.filter_eq_nil_iff.mpr fun x hx=>by rw [(List.mem_replicate.mp hx).2]; simp; omega]; rfl
theorem qbB (n:Nat):LdOk (List.replicate n 0) n 0:=by
 refine ⟨by simp,fun x hx=>by rw [(List.mem_replicate.mp hx).2]; decide,List.pairwise_replicate.mpr (by simp),?_⟩
 simp
def pop (c:List Int)(g:List Int->Int)(l:List Int):Int:=((List.range c.length).map fun r=>c.getD r 0 * g (putL l r)).sum
def popN (c:List Int):Nat->(List Int->Int)->List Int->Int
 | 0,g=>g
 | j + 1,g=>pop c (popN c j g)
theorem qfy (c:List Int):∀ (j:Nat) (g:List Int->Int),popN c (j + 1) g=popN c j (pop c g)
 | 0,g=>rfl
 | j + 1,g=>by show pop c (popN c (j + 1) g)=pop c (popN c j (pop c g)); rw [qfy c j g]
theorem qgY (a b:Mp)(f:List Int->Int):tot (a ++ b) f=tot a f + tot b f:=by unfold tot; rw [List.map_append,List.sum_append]
theorem qd2 (g:List Int->Mp)(f:List Int->Int):∀ m:Mp,tot (qa6 m g) f=tot m fun l=>tot (g l) f
 | []=>rfl
 | p :: m=>by
  have e:qa6 (p :: m) g=((g p.1).map fun q=>(q.1,p.2 * q.2)) ++ qa6 m g:=rfl
  have e2:tot ((g p.1).map fun q=>(q.1,p.2 * q.2)) f=p.2 * tot (g p.1) f:=by
   generalize g p.1=X
   induction X with
   | nil=>simp [tot]
   | cons q X ih =>
    unfold tot at ih ⊢
    simp only [List.map_cons,List.sum_cons]
    rw [ih,Int.mul_add,Int.mul_assoc]
  rw [e,qgY,qd2 g f m,e2]
  unfold tot
  simp only [List.map_cons,List.sum_cons]
theorem qhz {c:List Int}(c0:∀ r,0≤c.getD r 0)(m:Mp)(f:List Int->Int):tot (qb4 c m) f=tot m (pop c f):=by
 unfold qb4
 rw [qju,qd2]
 congr 1
 funext l
 exact qf2 c0 l f c.length
theorem qkC {c:List Int}(c0:∀ r,0≤c.getD r 0)(m:Mp):∀ (j:Nat) (f:List Int->Int),tot (itF c j m) f=tot m (popN c j f)
 | 0,f=>rfl
 | j + 1,f=>by
  show tot (qb4 c (itF c j m)) f=_
  rw [qhz c0,qkC c0 m j,qfy]
theorem qbS {α:Type}(f g:α->Int):∀ (l:List α),(∀ x∈l,f x≤g x)->(l.map f).sum≤(l.map g).sum
 | [],_=>by simp
 | a :: l,h=>by
  have:=qbS f g l fun x hx=>h x (by simp [hx])
  have:=h a (by simp)
  simp only [List.map_cons,List.sum_cons]
  omega
theorem qc1 {α:Type}(f g:α->Int):∀ (l:List α),(l.map fun x=>f x + g x).sum=(l.map f).sum + (l.map g).sum
 | []=>by simp
 | a :: l=>by simp only [List.map_cons,List.sum_cons,qc1 f g l]; omega
theorem qba {c:List Int}(c0:∀ r,0≤c.getD r 0){n:Nat}(hn:c.length=n){g h:List Int->Int}:∀ (j:Nat) (l:List Int) (b:Int),LdOk l n b->(∀ l',LdOk l' n (b + j)->g l'≤h l')->popN c j g l≤popN c j h l
 | 0,l,b,L,k=>k l (by simpa using L)
 | j + 1,l,b,L,k=>by
  refine qbS _ _ _ fun r hr=>?_
  have hr':=List.mem_range.mp hr
  exact Int.mul_le_mul_of_nonneg_left (qba c0 hn j _ (b + 1) (qgf L (by omega)) fun l' L'=>k l' (by rw [show b + ((j + 1:Nat):Int)=b + 1 + j by omega]; exact L')) (c0 r)
theorem qbr {c:List Int}:∀ (j:Nat) (l:List Int),popN c j (fun _=>0) l=0
 | 0,l=>rfl
 | j + 1,l=>by
  show ((List.range c.length).map fun r=>c.getD r 0 * popN c j (fun _=>0) (putL l r)).sum=0
  rw [List.map_congr_left (g:=fun _=>(0:Int)) fun r _=>by rw [qbr j]; omega]
  generalize List.range c.length=X
  induction X with
  | nil=>rfl
  | cons a X ih=>simp only [List.map_cons,List.sum_cons,ih]; omega
theorem qgm {c:List Int}{g h:List Int->Int}:∀ (j:Nat) (l:List Int),popN c j (fun l=>g l + h l) l=popN c j g l + popN c j h l
 | 0,l=>rfl
 | j + 1,l=>by
  show ((List.range c.length).map fun r=>c.getD r 0 * popN c j (fun l=>g l + h l) (putL l r)).sum=_
  rw [List.map_congr_left (g:=fun r=>c.getD r 0 * popN c j g (putL l r) + c.getD r 0 * popN c j h (putL l r)) fun r _=>by rw [qgm j,Int.mul_add],qc1]
  rfl
theorem qgk {c:List Int}{h:Nat->List Int->Int}(j:Nat)(l:List Int):∀ m:Nat,popN c j (fun l=>((List.range m).map fun i=>h i l).sum) l=((List.range m).map fun i=>popN c j (h i) l).sum
 | 0=>qbr j l
 | m + 1=>by
  have e:(fun l=>((List.range (m + 1)).map fun i=>h i l).sum)=fun l=>((List.range m).map fun i=>h i l).sum + h m l:=by
   funext l; rw [qaR,List.sum_append]; simp
  rw [e,qgm,qgk j l m,qaR,List.sum_append]
  simp
def hit (k a y:Int)(l:List Int):Int:=if gBox (k - 1) l≤a/\y≤gBox k l then 1 else 0
theorem qgA {c:List Int}{n:Nat}(hn:c.length=n){k a y:Int}:∀ (j:Nat) (l:List Int),l.length=n->a < gBox (k - 1) l->popN c j (hit k a y) l=0
 | 0,l,_,h=>by show hit k a y l=0; unfold hit; rw [if_neg (by omega)]
 | j + 1,l,hl,h=>by
  rw [<- qbr (c:=c) (j + 1) l]
  show ((List.range c.length).map fun r=>c.getD r 0 * popN c j (hit k a y) (putL l r)).sum=((List.range c.length).map fun r=>c.getD r 0 * popN c j (fun _=>0) (putL l r)).sum
  congr 1
  refine List.map_congr_left fun r hr=>?_
  have hr':=List.mem_range.mp hr
  rw [qgA hn j (putL l r) (by rw [qed,hl]) (by rw [qji (by omega)]; split <;> omega),qbr]
theorem qe5:∀ {c:List Int} (i:Nat),(∀ x∈c,0≤x)->(c.drop (i + 1)).sum≤(c.drop i).sum
 | [],i,_=>by simp
 | a :: c,0,h=>by have:=h a (by simp); simp; omega
 | a :: c,i + 1,h=>by
  have:=qe5 (c:=c) i fun x hx=>h x (by simp [hx])
  simpa using this
theorem qld {t u:Int}(ht:0≤t)(hu:0≤u)(n:Nat)(b:Int):tl t u n b≤tl t u n (b - 1):=by
 unfold tl
 by_cases h:b≤0
 ·rw [show b.toNat=0 by omega,show (b - 1).toNat=0 by omega]; exact Int.le_refl _
 ·rw [show b.toNat=(b - 1).toNat + 1 by omega]
  exact qe5 _ (qkw ht hu n)
theorem qcY (X Y:Int):∀ (c:List Int) (a:Nat),((List.range c.length).map fun r=>c.getD r 0 * if r < a then X else Y).sum=(c.take a).sum * X + (c.drop a).sum * Y
 | [],a=>by simp
 | x :: c,0=>by
  have ih:=qcY X Y c 0
  rw [List.length_cons,List.range_succ_eq_map,List.map_cons,List.map_map,List.sum_cons]
  simp only [Nat.not_lt_zero,if_false,List.take_zero,List.drop_zero,List.sum_nil,List.getD_cons_zero,List.sum_cons] at ih ⊢
  have e:(fun r=>(x :: c).getD r 0 * Y) ∘ Nat.succ=fun r=>c.getD r 0 * Y:=by funext r; rfl
  rw [e,ih]
  rw [Int.add_mul]; omega
 | x :: c,a + 1=>by
  have ih:=qcY X Y c a
  rw [List.length_cons,List.range_succ_eq_map,List.map_cons,List.map_map,List.sum_cons]
  have e:(fun r=>(x :: c).getD r 0 * if r < a + 1 then X else Y) ∘ Nat.succ=fun r=>c.getD r 0 * if r < a then X else Y:=by
   funext r
   show (x :: c).getD (r + 1) 0 * (if r + 1 < a + 1 then X else Y)=_
   simp only [Nat.add_lt_add_iff_right]
   rfl
  rw [e,ih]
  simp only [List.getD_cons_zero,List.take_succ_cons,List.drop_succ_cons,List.sum_cons]
  rw [if_pos (by omega),Int.add_mul]; omega
theorem qdB {c:List Int}(c0:∀ r,0≤c.getD r 0){n:Nat}(hn:c.length=n){a:Nat}{u k y:Int}(ht:0≤(c.take a).sum)(hu0:0≤u)(hu:(c.drop a).sum≤u):∀ (j:Nat) (l:List Int) (b:Int),LdOk l n b->popN c j (hit k a y) l≤tl (c.take a).sum u j (y - gBox k l)
 | 0,l,b,L=>by
  show hit k a y l≤_
  unfold hit
  by_cases z:gBox (k - 1) l≤a/\y≤gBox k l
  ·rw [if_pos z,tl_le (by omega)]; simp
  ·rw [if_neg z]; exact qlc ht hu0 _ _
 | j + 1,l,b,L=>by
  by_cases z:gBox (k - 1) l≤a
  ·rw [qlb]
   have h1:=qld ht hu0 j (y - gBox k l)
   have h0:=qlc ht hu0 j (y - gBox k l)
   have step:popN c (j + 1) (hit k a y) l≤((List.range c.length).map fun r=>c.getD r 0 * if r < a then tl (c.take a).sum u j (y - gBox k l - 1) else tl (c.take a).sum u j (y - gBox k l)).sum:=by
    refine qbS _ _ _ fun r hr=>Int.mul_le_mul_of_nonneg_left ?_ (c0 r)
    have hr':=List.mem_range.mp hr
    have rl:r < l.length:=by rw [L.len]; omega
    have ih:=qdB c0 hn (k:=k) (y:=y) ht hu0 hu j (putL l r) (b + 1) (qgf L (by omega))
    rw [qji rl] at ih
    by_cases e:l.getD r 0 + 1=k
    ·rw [if_pos e] at ih
     have:=qgN (k - 1) l r L.dn rl (by omega)
     rw [if_pos (by omega)]
     rw [show y - (gBox k l + 1)=y - gBox k l - 1 by omega] at ih
     exact ih
    ·rw [if_neg e,Int.add_zero] at ih
     split <;> omega
   rw [qcY] at step
   have h3:=Int.mul_le_mul_of_nonneg_right hu h0
   rw [Int.mul_comm] at h3
   have e1:=Int.mul_comm (tl (c.take a).sum u j (y - gBox k l - 1)) (c.take a).sum
   have e2:=Int.mul_comm (tl (c.take a).sum u j (y - gBox k l)) u
   have e3:=Int.mul_comm (tl (c.take a).sum u j (y - gBox k l)) (c.drop a).sum
   omega
  ·rw [qgA hn (j + 1) l L.len (by omega)]
   exact qlc ht hu0 _ _
def brkI (ls:List Int)(m:Nat)(l:List Int):Prop:=∃ i,i < m/\ls.getD (i + 1) 0 < gBox ((i:Int) + 1) l
instance (ls:List Int) (m:Nat) (l:List Int):Decidable (brkI ls m l):=by unfold brkI; infer_instance
def brkF (ls:List Int)(m:Nat)(l:List Int):Int:=if brkI ls m l then 1 else 0
theorem qmW (k a y:Int)(l:List Int):0≤hit k a y l:=by unfold hit; split <;> decide
theorem qk8 {ls:List Int}{n:Nat}{l:List Int}{b:Int}(L:LdOk l n b)(h0:ls.getD 0 0=n):∀ m:Nat,brkF ls m l≤((List.range m).map fun i:Nat=>hit ((i:Int) + 1) (ls.getD i 0) (ls.getD (i + 1) 0 + 1) l).sum
 | 0=>by unfold brkF; rw [if_neg (by rintro ⟨i,hi,_⟩; omega)]; simp
 | m + 1=>by
  have ih:=qk8 L h0 m
  rw [qaR,List.sum_append]
  simp only [List.sum_cons,List.sum_nil]
  have nn:=qmW ((m:Int) + 1) (ls.getD m 0) (ls.getD (m + 1) 0 + 1) l
  unfold brkF at ih ⊢
  by_cases z:brkI ls m l
  ·rw [if_pos z] at ih
   split <;> omega
  ·rw [if_neg z] at ih
   by_cases z2:brkI ls (m + 1) l
   ·rw [if_pos z2]
    obtain ⟨i,hi,hb⟩:=z2
    have e:i=m:=by
     rcases Nat.lt_or_ge i m with q | q
     ·exact absurd ⟨i,q,hb⟩ z
     ·omega
    subst e
    have:hit ((i:Int) + 1) (ls.getD i 0) (ls.getD (i + 1) 0 + 1) l=1:=by
     unfold hit
     refine if_pos ⟨?_,by omega⟩
     cases i with
     | zero=>simp only [Int.natCast_zero,Int.zero_add,Int.sub_self]; rw [h0,qmi L.nn,L.len]; exact Int.le_refl _
     | succ i =>
      rcases Int.lt_or_le (ls.getD (i + 1) 0) (gBox ((i:Int) + 1) l) with q | q
      ·exact absurd ⟨i,by omega,q⟩ z
      ·rw [show ((i + 1:Nat):Int) + 1 - 1=(i:Int) + 1 by omega]; exact q
    omega
   ·rw [if_neg z2]; omega
theorem qke {c:List Int}(c0:∀ r,0≤c.getD r 0)(c0':∀ x∈c,0≤x){n:Nat}(hn:c.length=n){L:Int}(hL:c.sum≤L){balls:Nat}{T:Nat->Nat->Int}(hT:∀ a j:Nat,T a j=tl (c.take a).sum (L - (c.take a).sum) balls (j:Int)){k a b:Int}(k1:1≤k)(a0:0≤a)(b0:0≤b) :
  popN c balls (hit k a (b + 1)) (List.replicate n 0)≤pF n balls T k a b:=by
 have Z:=qbB n
 unfold pF
 by_cases z:b=n\/(balls:Int) < k * (b + 1)
 ·rw [if_pos z]
  have:=qba c0 hn (g:=hit k a (b + 1)) (h:=fun _=>0) balls _ 0 Z fun l' L'=>by
   unfold hit
   rw [if_neg]
   ·exact Int.le_refl _
   ·rintro ⟨_,h2⟩
    rcases z with z | z
    ·have:=qna k l'; rw [L'.len] at this; omega
    ·have h3:=qjg (k:=k) (by omega) L'.nn
     rw [L'.sum] at h3
     have:=Int.mul_le_mul_of_nonneg_left h2 (show 0≤k by omega)
     omega
  rwa [qbr] at this
 ·rw [if_neg z,hT]
  obtain ⟨a',rfl⟩:∃ a':Nat,a=a':=⟨a.toNat,by omega⟩
  have ht:0≤(c.take a').sum:=qd5 fun x hx=>c0' x (List.mem_of_mem_take hx)
  have hd:(c.take a').sum + (c.drop a').sum=c.sum:=by rw [<- List.sum_append,List.take_append_drop]
  have hd0:0≤(c.drop a').sum:=qd5 fun x hx=>c0' x (List.mem_of_mem_drop hx)
  have:=qdB c0 hn (a:=a') (u:=L - (c.take a').sum) (k:=k) (y:=b + 1) ht (by omega) (by omega) balls _ 0 Z
  rw [qky k1,Int.sub_zero] at this
  rw [show (((b + 1).toNat:Nat):Int)=b + 1 by omega,show ((a':Int)).toNat=a' by omega]
  exact this
theorem qdp {c:List Int}(c0:∀ r,0≤c.getD r 0)(c0':∀ x∈c,0≤x){n:Nat}(hn:c.length=n){L:Int}(hL:c.sum≤L){balls:Nat}{T:Nat->Nat->Int}(hT:∀ a j:Nat,T a j=tl (c.take a).sum (L - (c.take a).sum) balls (j:Int)){ls:List Int}(h0:ls.getD 0 0=n)(hls:∀ i,0≤ls.getD i 0)(m:Nat) :
  popN c balls (brkF ls m) (List.replicate n 0)≤((List.range m).map fun i:Nat=>pF n balls T ((i:Int) + 1) (ls.getD i 0) (ls.getD (i + 1) 0)).sum:=by
 have h1:=qba c0 hn (g:=brkF ls m) (h:=fun l=>((List.range m).map fun i:Nat=>hit ((i:Int) + 1) (ls.getD i 0) (ls.getD (i + 1) 0 + 1) l).sum) balls _ 0 (qbB n) fun l' L'=>qk8 L' h0 m
 rw [qgk (h:=fun i=>hit ((i:Int) + 1) (ls.getD i 0) (ls.getD (i + 1) 0 + 1))] at h1
 refine Int.le_trans h1 (qbS _ _ _ fun i _=>qke c0 c0' hn hL hT (by omega) (hls i) (hls (i + 1)))
theorem qe4 {n balls:Nat}{T:Nat->Nat->Int}:∀ (k b:Nat) (t u:Int) (ls:List Int),(b,t)∈entF n balls T k->Wt n balls T k b u ls->t≤u
 | 0,b,t,u,ls,h,w=>by
  have:=List.mem_singleton.mp h
  rw [(Prod.mk.inj this).2,w.sum]; simp
 | k + 1,b,t,u,ls,h,w=>by
  obtain ⟨b',hb',e⟩:=List.mem_map.mp h
  obtain ⟨rfl,rfl⟩:=Prod.mk.inj e
  have hl:=w.len
  obtain ⟨a,ha⟩:∃ a:Nat,ls.getD k 0=(a:Int):=by
   have:ls.getD k 0∈ls:=by rw [List.getD_eq_getElem?_getD,List.getElem?_eq_getElem (by omega)]; exact List.getElem_mem _
   have:=(w.bnd _ this).1
   exact ⟨(ls.getD k 0).toNat,by omega⟩
  have an:a≤n:=by
   have:ls.getD k 0∈ls:=by rw [List.getD_eq_getElem?_getD,List.getElem?_eq_getElem (by omega)]; exact List.getElem_mem _
   have:=(w.bnd _ this).2
   omega
  have hab:b'≤a:=by have:=w.fal k (by omega); rw [w.lst,ha] at this; omega
  have tk:∀ i,i≤k->(ls.take (k + 1)).getD i 0=ls.getD i 0:=fun i hi=>by
   rw [List.getD_eq_getElem?_getD,List.getD_eq_getElem?_getD,List.getElem?_take,if_pos (by omega)]
  have w':Wt n balls T k a (((List.range k).map fun i:Nat=>pF n balls T ((i:Int) + 1) (ls.getD i 0) (ls.getD (i + 1) 0)).sum) (ls.take (k + 1)):=by
   refine ⟨by simp; omega,by rw [tk 0 (by omega)]; exact w.fst,by rw [tk k (by omega)]; exact ha,fun i hi=>?_,fun x hx=>w.bnd x (List.mem_of_mem_take hx),?_⟩
   ·have:i + 1 < k + 1:=by simp at hi; omega
    rw [tk i (by omega),tk (i + 1) (by omega)]; exact w.fal i (by omega)
   ·congr 1
    refine List.map_congr_left fun i hi=>?_
    have:=List.mem_range.mp hi
    rw [tk i (by omega),tk (i + 1) (by omega)]
  obtain ⟨s,hs⟩:∃ s,(a,s)∈entF n balls T k:=by
   cases k with
   | zero =>
    have:a=n:=by have:=w.fst; rw [ha] at this; omega
    exact ⟨0,by rw [this]; exact List.mem_singleton.mpr rfl⟩
   | succ k=>exact ⟨_,List.mem_map.mpr ⟨a,List.mem_range.mpr (by omega),rfl⟩⟩
  have ih:=qe4 k a s _ _ hs w'
  have hc:s + pF n balls T ((k:Int) + 1) a b'∈qcx n balls T (entF n balls T k) k b':=by
   unfold qcx
   exact List.mem_map.mpr ⟨(a,s),List.mem_filter.mpr ⟨hs,by simpa using hab⟩,rfl⟩
  have h1:=(qlR (List.ne_nil_of_mem hc)).2 _ hc
  rw [w.sum,qaR,List.sum_append]
  simp only [List.sum_cons,List.sum_nil]
  rw [ha,w.lst]
  omega
theorem qdV {a b S:Int}(hS:0 < S):Rat.divInt a S + Rat.divInt b S=Rat.divInt (a + b) S:=by
 rw [Rat.divInt_add_divInt _ _ (by omega) (by omega),Rat.divInt_eq_divInt_iff (by have:=Int.mul_pos hS hS; omega) (by omega),<- Int.add_mul,Int.mul_assoc]
theorem qlU {q r:Rat}:lowF (q.num * (r.den:Int) + r.num * (q.den:Int)) ((q.den:Int) * (r.den:Int))=prq (q + r):=by
 have hq:(0:Int) < (q.den:Int):=by have:=q.den_pos; omega
 have hr:(0:Int) < (r.den:Int):=by have:=r.den_pos; omega
 rw [qdu (Int.mul_pos hq hr)]
 congr 1
 rw [<- Rat.divInt_add_divInt _ _ (by omega) (by omega),Rat.num_divInt_den,Rat.num_divInt_den]
section
variable {P:Program}{w:World}{K:PySem.W.Frag}{mg:Str->Option Value}{base:Heap}
def qd7:Sp:=fun vs H Q _=>∃ v u q r,vs=[v,u]/\ShAt H v q/\ShAt H u r/\SB 3000 q/\SB 3000 r/\Q (.bl (decide (q≤r))) H
theorem qig (F:FunAt K mg "_law_is_no_more" ["_law_one", "_law_other"] s_l_is_no_more):Cal P w K mg base "_law_is_no_more" ["_law_one", "_law_other"] 1 qd7:=by
 have S:=qbK
 refine F.cal qbK (fun vs H Q E h=>?_) (fun f cdv A outer s H vs Q E hr h=>?_)
 ·obtain ⟨v,u,q,r,rfl,_⟩:=h; rfl
 obtain ⟨_,_,q,r,rfl,⟨a,rfl,ha⟩,⟨b,rfl,hb⟩,sq,sr,k⟩:=h
 refine ⟨_,(@pO _ _ _ (@qan _ _ _ _ (@qct _ _ _ _ _ _ _ _ op_le (@pP _ _ _ _ _ _ _ _ qbx (@qax _ _ _ _ _ _ _ qbg (pv 0) pI (by exact (fun _ _=>rfl))) (@qax _ _ _ _ _ _ _ qbg (pv 1) pI (by exact (fun _ _=>rfl)))) (@pP _ _ _ _ _ _ _ _ qbx (@qax _ _ _ _ _ _ _ qbg (pv 1) pI (by exact (fun _ _=>rfl))) (@qax _ _ _ _ _ _ _ qbg (pv 0) pI (by exact (fun _ _=>rfl)))) (by exact (qaO _))))),?_⟩
 have big:∀ {x:Int},Bt 3000 x->Bt 20000 x:=fun h=>h.mono (by decide)
 refine ⟨_,rfl,a,_,_,_,rfl,rfl,SqT.of ha,rfl,_,rfl,b,_,_,_,rfl,rfl,SqT.of hb,rfl,_,_,rfl,rfl,⟨big sq.1,big sr.2⟩,_,rfl,b,_,_,_,rfl,rfl,SqT.of hb,rfl,_,rfl,a,_,_,_,rfl,rfl,SqT.of ha,rfl,_,_,rfl,rfl,⟨big sr.1,big sq.2⟩,?_⟩
 have e:decide (q≤r)=decide (q.num * (r.den:Int)≤r.num * (q.den:Int)):=by
  rw [decide_eq_decide]; exact Rat.le_iff ..
 rw [e] at k
 exact ⟨_,_,rfl,rfl,k⟩
def qf6:Sp:=fun vs H Q _=>∃ (a b:Addr) (l ls:List Int),vs=[.ref a,.ref b]/\H a=some (.tup (iv l))/\H b=some (.tup (iv ls))/\l.length≤6/\1≤ls.length/\ls.length≤10/\∀ H',Same H H'->Q (.bl (decide (brkI ls (ls.length - 1) l))) H'
theorem qil (T:Txt2 mg)(F:FunAt K mg "_law_broken" ["_law_load", "_law_some"] s_l_broken):Cal P w K mg base "_law_broken" ["_law_load", "_law_some"] 1 qf6:=by
 have S:=qc9
 refine F.cal qc9 (fun vs H Q E h=>?_) (fun f cdv A outer s H vs Q E hr h=>?_)
 ·obtain ⟨a,b,l,ls,rfl,_⟩:=h; rfl
 obtain ⟨a,b,l,ls,rfl,ha,hb,l6,ll1,ll,k⟩:=h
 refine ⟨_,(@pK _ _ _ _ _ (@qbj _ _ _ _ _ _ _ _ (by exact PassesOwn.never) ⋯ (@qdd _ _ _ _ _ _ _ ⋯ (by exact T.z_range) (@pC _ _ _ _ _ pI (@pC _ _ _ _ _ (@qag _ _ _ _ _ _ _ _ _ qai ⋯ (by exact T.z_len) (by exact qa4) (@pC _ _ _ _ _ (pv 1) pN ⋯) ⋯ ⋯ ⋯ ⋯) pN ⋯) ⋯) ⋯ ⋯) (@pG _ _ (2) _ (by exact S.nd) ⋯ ⋯ ⋯) (@pO _ _ _ (@qcr _ _ _ _ _ _ _ _ (@qaL _ _ _ _ _ _ _ _ qfB (@qag _ _ _ _ _ _ _ _ _ qai ⋯ (by exact T.z_len) (by exact qa4) (@pC _ _ _ _ _ (@qaE _ _ _ _ _ _ _ _ _ _ _ _ _ ⋯ (by exact (fun _ _ h=>h)) (by decide +kernel) ⋯ (by decide +kernel) (by exact qaJ rfl) (by exact Sees.frees ["_law_number"] [("_law_k",2)] (qal ⟨rfl,rfl⟩ qaK)) (@qkQ _ _ _ _ (pv 0)) (fun _ _ _ _ _ => @pG _ _ (0) _ (by exact (show (["_law_number", "_law_k"]:List Str).Nodup by decide +kernel)) ⋯ ⋯ ⋯) (fun _ _ _ _ _=>(@qcq _ _ _ (@qaL _ _ _ _ _ _ _ _ qg3 (pv 0) (pv 1) (by exact (qaO _))))) (fun _ _ _ _ _=>pI) ⋯) pN ⋯) ⋯ ⋯ ⋯ ⋯) (@qax _ _ _ _ _ _ _ qbg (pv 1) (pv 2) (by exact (fun _ _=>rfl))) (by exact (qaO _))) (@pO _ _ _ (@qan _ _ _ _ qh8)) qa8)) ⋯) (@pO _ _ _ (@qan _ _ _ _ qh8))),?_⟩
 refine ⟨_,rfl,b,_,rfl,.inr (SqT.of hb),1,_,rfl,⟨by decide,by decide,by omega,by simp; omega⟩,?_⟩
 refine qfQ (qbp (lo:=1)) (fun i σ H'=>Same H H'/\(∃ o,σ=[some (.ref a),some (.ref b),o])/\¬ brkI ls i l) ⟨Same.refl _,⟨_,rfl⟩,fun ⟨i,hi,_⟩=>by omega⟩ (fun _ _ _ _=>trivial) ?_ ?_
 ·rintro i x σ X1 H1 hi ⟨s1,⟨o,rfl⟩,nb⟩ ⟨rfl,rfl⟩
  have hi':i + 1 < ls.length:=by simp at hi; omega
  refine gN_ ?_
  refine ⟨_,rfl,a,rfl,⟨_,SqT.of (s1 _ _ ha)⟩,qb0 (qdx (xs:=iv l)) (fun p j ys σ' H'=>Same H1 H'/\(∃ o1,σ'=[o1,some (.int (1 + (i:Int)))])/\ys=((l.take j).filter fun x=>decide (1 + (i:Int)≤x)).map fun _=>V.int 1) (by simp; omega) ?_ ?_ ?_ ?_⟩
  ·exact fun p hp=>⟨sN hp _,⟨_,rfl⟩,rfl⟩
  ·rintro p j ys σ' H' hp ⟨s',_⟩
   exact s' _ _ (s1 _ _ ha)
  ·rintro p j ys σ' H' x H'' hp hj hl' ⟨s',⟨o1,rfl⟩,rfl⟩ hp' ⟨rfl,hx⟩ Q1 Q2 h1 h2
   rw [List.getElem?_map,Option.map_eq_some_iff] at hx
   obtain ⟨n,hn,rfl⟩:=hx
   refine gN_ ⟨_,rfl,_,rfl,_,_,rfl,rfl,_,rfl,?_⟩
   have e:=take_snoc hn
   refine ite2 (fun c=>?_) (fun c=>?_)
   ·have c':1 + (i:Int)≤n:=of_decide_eq_true c
    refine h1 _ _ _ hp' ⟨qao hp s' _,⟨_,rfl⟩,?_⟩
    rw [e,List.filter_append,List.map_append]
    simp [c']
   ·have c':¬ 1 + (i:Int)≤n:=fun z=>c (decide_eq_true z)
    refine h2 _ _ hp' ⟨s',⟨_,rfl⟩,?_⟩
    rw [e,List.filter_append,List.map_append]
    simp [c']
  ·rintro p ys σ' H' hp ⟨s',_,rfl⟩ hp' hl'
   rw [List.take_of_length_le (by simp)] at hp'
   have hb':=(s1.trans s') _ _ hb
   have hat:atI (iv ls) (1 + (i:Int))=some (.int (ls.getD (i + 1) 0)):=qen hi' (by omega)
   refine ⟨p,_,rfl,.inl (SqL.of hp'),_,rfl,_,rfl,b,_,_,_,rfl,rfl,SqT.of hb',hat,_,_,rfl,rfl,_,rfl,?_⟩
   have eb:(((((l.filter fun x=>decide (1 + (i:Int)≤x)).map fun _=>V.int 1).length:Nat)):Int)=gBox ((i:Int) + 1) l:=by
    rw [List.length_map,Int.add_comm]; rfl
   refine ite2 (fun c=>?_) (fun c=>?_)
   ·have c':=of_decide_eq_true c
    rw [eb] at c'
    have:=k H' (s1.trans s')
    rw [decide_eq_true (show brkI ls (ls.length - 1) l from ⟨i,by omega,c'⟩)] at this
    exact this
   ·have c':¬ _:=fun z=>c (decide_eq_true z)
    rw [eb] at c'
    refine ⟨s1.trans s',⟨_,rfl⟩,?_⟩
    rintro ⟨j,hj,hjb⟩
    rcases Nat.lt_or_ge j i with q | q
    ·exact nb ⟨j,q,hjb⟩
    ·have:j=i:=by omega
     subst this
     exact c' hjb
 ·rintro σ H1 ⟨s1,⟨o,rfl⟩,nb⟩
  have e:(((iv ls).length:Int) - 1).toNat=ls.length - 1:=by simp
  rw [e] at nb
  have:=k H1 s1
  rw [decide_eq_false nb] at this
  exact this
def qhK:Sp:=fun vs H Q _=>∃ (a:Addr) (xs:List V) (ns:List Int) (S:Int),vs=[.ref a]/\H a=some (.lst xs)/\Shs H xs (ns.map fun x=>Rat.divInt x S)/\0 < S/\Bt 2000 S/\(∀ x∈ns,0≤x)/\Bt 2000 ns.sum/\ns.length≤10000/\∀ v H',Same H H'->ShAt H' v (Rat.divInt ns.sum S)->Q v H'
theorem qlH (T:Txt2 mg)(C_l_lowest:Cal P w K mg base "_law_lowest" ["_law_top", "_law_bottom"] 2 qcO)(F:FunAt K mg "_law_sum" ["_law_parts_here"] s_l_sum):Cal P w K mg base "_law_sum" ["_law_parts_here"] 3 qhK:=by
 have S:=qf8
 refine F.cal qf8 (fun vs H Q E h=>?_) (fun f cdv A outer s H vs Q E hr h=>?_)
 ·obtain ⟨a,xs,ns,S,rfl,_⟩:=h; rfl
 obtain ⟨a,xs,ns,S0,rfl,ha,sh,S1,bS,nn,bn,few,k⟩:=h
 refine ⟨_,(@pK _ _ _ _ _ (@pZ _ _ (1) _ _ _ _ (by exact S.nd) ⋯ ⋯ (@qaN _ _ _ _ _ (@pC _ _ _ _ _ pI (@pC _ _ _ _ _ pI pN ⋯) ⋯)) ⋯ ⋯) (@pK _ _ _ _ _ (@qbj _ _ _ _ _ _ _ _ (by exact PassesOwn.never) ⋯ (@qaS _ _ _ _ (pv 0)) (@qbs _ _ _ _ _ _ ⋯ (@qab _ _ _ _ _ (@pG _ _ (2) _ (by exact S.nd) ⋯ ⋯ ⋯) (@qab _ _ _ _ _ (@pG _ _ (3) _ (by exact S.nd) ⋯ ⋯ ⋯) qas ⋯) ⋯) ⋯ ⋯) (@pO _ _ _ (@pZ _ _ (1) _ _ _ _ (by exact S.nd) ⋯ ⋯ (@cc _ _ _ _ _ _ _ _ _ _ (by exact C_l_lowest) (by exact (hr.mono (by decide))) (@pC _ _ _ _ _ (@pP _ _ _ _ _ _ _ _ qaF (@pP _ _ _ _ _ _ _ _ qbx (@qax _ _ _ _ _ _ _ qbg (pv 1) pI (by exact (fun _ _=>rfl))) (pv 3)) (@pP _ _ _ _ _ _ _ _ qbx (pv 2) (@qax _ _ _ _ _ _ _ qbg (pv 1) pI (by exact (fun _ _=>rfl))))) (@pC _ _ _ _ _ (@pP _ _ _ _ _ _ _ _ qbx (@qax _ _ _ _ _ _ _ qbg (pv 1) pI (by exact (fun _ _=>rfl))) (pv 3)) pN ⋯) ⋯) ⋯ ⋯ ⋯ ⋯) ⋯ ⋯)) ⋯) (@pO _ _ _ (@qan _ _ _ _ (pv 1))))),?_⟩
 have xl:=sh.length
 rw [List.length_map] at xl
 have part:∀ i,0≤(ns.take i).sum/\(ns.take i).sum≤ns.sum:=fun i=>qee i nn
 have sbq:∀ x:Int,0≤x->x≤ns.sum->SB 2000 (Rat.divInt x S0):=fun x h0 h1=>SB.divInt (bn.of_le (by omega)) bS S1
 refine ⟨lz 2 rfl,fun f1 hf1=>?_⟩
 refine ⟨_,rfl,a,rfl,⟨_,SqL.of (sN hf1 _ _ _ ha)⟩,qfQ (qaU (xs:=xs)) (fun i σ H'=>Same H H'/\∃ f2 o2 o3,σ=[some (.ref a),some (.ref f2),o2,o3]/\ShAt H' (.ref f2) (Rat.divInt (ns.take i).sum S0)) ?_ ?_ ?_ ?_⟩
 ·refine ⟨sN hf1 _,f1,_,_,rfl,f1,rfl,?_⟩
  rw [uS,List.take_zero,List.sum_nil,Rat.zero_divInt]; rfl
 ·rintro i σ H' ⟨s',_⟩
  exact s' _ _ ha
 ·rintro i x σ X1 H1 hi ⟨s1,f2,o2,o3,rfl,⟨f3,ef,hf2⟩⟩ ⟨rfl,hx⟩
  cases ef
  obtain ⟨q,hq,c,rfl,hc⟩:=sh.at hx
  rw [List.getElem?_map,Option.map_eq_some_iff] at hq
  obtain ⟨n,hn,rfl⟩:=hq
  have hc1:=s1 _ _ hc
  have n0:=nn n (List.mem_of_getElem? hn)
  have et:(ns.take (i + 1)).sum=(ns.take i).sum + n:=by rw [take_snoc hn,List.sum_append]; simp
  have p0:=part i
  have p1:=part (i + 1)
  have sb1:=sbq _ p0.1 p0.2
  have sb2:=sbq n n0 (by omega)
  have qn:0≤(Rat.divInt n S0).num:=Rat.num_nonneg.mpr (Rat.divInt_nonneg n0 (by omega))
  have pn:0≤(Rat.divInt (ns.take i).sum S0).num:=Rat.num_nonneg.mpr (Rat.divInt_nonneg p0.1 (by omega))
  have d1:(0:Int) < ((Rat.divInt n S0).den:Int):=by have:=(Rat.divInt n S0).den_pos; omega
  have d2:(0:Int) < ((Rat.divInt (ns.take i).sum S0).den:Int):=by have:=(Rat.divInt (ns.take i).sum S0).den_pos; omega
  have big:∀ {x:Int},Bt 2000 x->Bt 20000 x:=fun h=>h.mono (by decide)
  refine ⟨c,_,rfl,SqT.of hc1,rfl,_,_,rfl,_,_,rfl,rfl,?_⟩
  refine ⟨_,rfl,f2,_,_,_,rfl,rfl,SqT.of hf2,rfl,_,rfl,_,_,rfl,rfl,⟨big sb1.1,big sb2.2⟩,_,rfl,_,rfl,f2,_,_,_,rfl,rfl,SqT.of hf2,rfl,_,_,rfl,rfl,⟨big sb2.1,big sb1.2⟩,_,_,rfl,rfl,_,rfl,f2,_,_,_,rfl,rfl,SqT.of hf2,rfl,_,rfl,_,_,rfl,rfl,⟨big sb1.2,big sb2.2⟩,_,_,rfl,?_,Int.mul_pos d2 d1,(sb1.2.mul sb2.2).mono (by decide),fun v H3 s3 pv=>?_⟩
  ·exact Int.add_nonneg (Int.mul_nonneg pn (by omega)) (Int.mul_nonneg qn (by omega))
  rw [qlU,qdV S1,<- et] at pv
  obtain ⟨f4,rfl,hf4⟩:=pv
  exact ⟨s1.trans s3,f4,_,_,rfl,f4,rfl,hf4⟩
 ·rintro σ H1 ⟨s1,f2,o2,o3,rfl,hf2⟩
  rw [xl,List.take_length] at hf2
  exact ⟨_,rfl,k _ _ s1 hf2⟩
end
abbrev qsF (ts:List Int)(B:Int):List Rat:=ts.map fun x=>Rat.divInt x B
theorem qek {ts:List Int}{B:Int}(hB:0 < B):(ts.map fun x=>lowF x B)=(qsF ts B).map prq:=by
 rw [List.map_map]
 exact List.map_congr_left fun x _=>qdu hB
theorem qgO {ts:List Int}{B:Int}(hB:0 < B):lcmF (ts.map fun x=>lowF x B)=botF (qsF ts B):=by
 rw [qek hB]
 unfold lcmF botF lqF
 rw [List.foldl_map]
theorem qmd {ts:List Int}{B:Int}(hB:0 < B)(L:Int):chF L (ts.map fun x=>lowF x B)=tpF L (qsF ts B):=by
 rw [qek hB]
 unfold chF tpF
 rw [List.map_map]; rfl
structure RX (ts:List Int)(B L:Int)(c:List Int):Prop where
 l0:0 < L
 l1:L≤2000
 len:c.length=ts.length
 nn:∀ x∈c,0≤x
 nd:∀ r,0≤c.getD r 0
 sum:c.sum=L
 row:∀ r q,(qsF ts B)[r]?=some q->q.num * L=c.getD r 0 * (q.den:Int)/\0≤q.num/\q.num≤2000/\(q.den:Int)≤2000
theorem qjD {ts:List Int}{B:Int}(R:qfe ts B):RX ts B (botF (qsF ts B)) (tpF (botF (qsF ts B)) (qsF ts B)):=by
 have B0:=R.b0
 obtain ⟨L0,L1,_⟩:=qcH (qfu R)
 have C:=qi5 R
 rw [qgO B0] at L0 L1 C
 have hd:∀ q∈qsF ts B,(q.den:Int) ∣ botF (qsF ts B):=qiV
 have cn:∀ x∈tpF (botF (qsF ts B)) (qsF ts B),0≤x:=by rw [<- qmd B0]; exact C.nn
 refine ⟨L0,L1,by simp [tpF],cn,fun r=>?_,?_,fun r q hq=>?_⟩
 ·rw [List.getD_eq_getElem?_getD]
  cases e:(tpF (botF (qsF ts B)) (qsF ts B))[r]? with
  | none=>simp
  | some y=>exact cn y (List.mem_of_getElem? e)
 ·have:=qi4 (L:=botF (qsF ts B)) B0 ts fun x hx=>by
   rw [qdu B0]
   have:Rat.divInt x B∈qsF ts B:=List.mem_map_of_mem hx
   exact ⟨by have:=(Rat.divInt x B).den_pos; show (0:Int) < ((Rat.divInt x B).den:Int); omega,hd _ this⟩
  rw [qmd B0,R.sm,Int.mul_comm B] at this
  exact Int.eq_of_mul_eq_mul_right (by omega) this
 ·have hm:=List.mem_of_getElem? hq
  obtain ⟨x,hx,rfl⟩:=List.mem_map.mp hm
  have d0:(0:Int) < ((Rat.divInt x B).den:Int):=by have:=(Rat.divInt x B).den_pos; omega
  have dd:=hd _ hm
  have ec:(tpF (botF (qsF ts B)) (qsF ts B)).getD r 0=(Rat.divInt x B).num * (botF (qsF ts B) / ((Rat.divInt x B).den:Int)):=by
   unfold tpF
   rw [List.getD_eq_getElem?_getD,List.getElem?_map,hq]; rfl
  have rl:=(qfu R).dv _ (List.mem_map_of_mem (f:=fun x=>lowF x B) hx)
  rw [qdu B0] at rl
  obtain ⟨r1,r2,r3,r4⟩:=rl
  have:=Int.le_of_dvd L0 dd
  refine ⟨?_,r1,by show (Rat.divInt x B).num≤2000; have:(Rat.divInt x B).num≤((Rat.divInt x B).den:Int):=r2; omega,by omega⟩
  rw [ec,Int.mul_assoc,Int.ediv_mul_cancel dd]
def allG (c:List Int)(l:List Int):Mp:=(List.range c.length).map fun r=>(putL l r,c.getD r 0)
def qbw (c:List Int):Nat->Mp
 | 0=>[(List.replicate c.length 0,1)]
 | j + 1=>qa6 (qbw c j) (allG c)
theorem qcU (c l:List Int):(allG c l).length=c.length:=by simp [allG]
theorem qew (c:List Int):∀ (j:Nat) (f:List Int->Int),tot (qbw c j) f=popN c j f (List.replicate c.length 0)
 | 0,f=>by simp [tot,qbw,popN]
 | j + 1,f=>by
  show tot (qa6 (qbw c j) (allG c)) f=_
  rw [qd2,qfy,<- qew c j]
  congr 1
  funext l
  unfold tot allG pop
  rw [List.map_map]; rfl
theorem qft (c:List Int):∀ (j:Nat),∀ p∈qbw c j,LdOk p.1 c.length j
 | 0,p,h=>by
  have:=List.mem_singleton.mp h
  subst this
  exact qbB _
 | j + 1,p,h=>by
  obtain ⟨q,hq,hp⟩:=List.mem_flatMap.mp h
  obtain ⟨g,hg,rfl⟩:=List.mem_map.mp hp
  obtain ⟨r,hr,rfl⟩:=List.mem_map.mp hg
  have:=qgf (qft c j q hq) (List.mem_range.mp hr)
  exact this
theorem qhX {c:List Int}(c0:∀ r,0≤c.getD r 0):∀ (j:Nat),∀ p∈qbw c j,0≤p.2
 | 0,p,h=>by
  have:=List.mem_singleton.mp h
  subst this
  show (0:Int)≤1
  decide
 | j + 1,p,h=>by
  obtain ⟨q,hq,hp⟩:=List.mem_flatMap.mp h
  obtain ⟨g,hg,rfl⟩:=List.mem_map.mp hp
  obtain ⟨r,hr,rfl⟩:=List.mem_map.mp hg
  exact Int.mul_nonneg (qhX c0 j q hq) (c0 r)
theorem qeH (c:List Int):∀ j,(qbw c j).length≤c.length ^ j
 | 0=>by simp [qbw]
 | j + 1=>by
  have:=qcQ (qbw c j) (allG c) c.length fun l=>Nat.le_of_eq (qcU c l)
  rw [Nat.pow_succ]
  exact Nat.le_trans this (Nat.mul_le_mul_right _ (qeH c j))
theorem qjy (c:List Int):((List.range c.length).map fun r=>c.getD r 0).sum=c.sum:=by
 congr 1
 refine List.ext_getElem (by simp) fun i h1 h2=>?_
 simp [h2]
theorem qgl (c:List Int):∀ (j:Nat) (l:List Int),popN c j (fun _=>1) l=c.sum ^ j
 | 0,l=>by rw [Int.pow_zero]; rfl
 | j + 1,l=>by
  show ((List.range c.length).map fun r=>c.getD r 0 * popN c j (fun _=>1) (putL l r)).sum=_
  rw [List.map_congr_left (g:=fun r=>c.getD r 0 * c.sum ^ j) fun r _=>by rw [qgl c j]]
  have:=qcZ ((List.range c.length).map fun r=>c.getD r 0) (c.sum ^ j)
  rw [List.map_map,qjy] at this
  rw [Int.pow_succ,Int.mul_comm (c.sum ^ j)]
  exact this
theorem qef {c:List Int}(c0:∀ r,0≤c.getD r 0){g:List Int->Int}(h0:∀ l,0≤g l)(h1:∀ l,g l≤1)(j:Nat):0≤popN c j g (List.replicate c.length 0)/\popN c j g (List.replicate c.length 0)≤c.sum ^ j:=by
 have a:=qba c0 rfl (g:=fun _=>0) (h:=g) j _ 0 (qbB c.length) fun l' _=>h0 l'
 have b:=qba c0 rfl (g:=g) (h:=fun _=>1) j _ 0 (qbB c.length) fun l' _=>h1 l'
 rw [qbr] at a
 rw [qgl] at b
 exact ⟨a,b⟩
theorem qe1 {l:List Int}{n:Nat}{b:Int}(L:LdOk l n b)(h:1≤n)(m:Int):(if m≤l.getD 0 0 then (1:Int) else 0)=qa7 m 1 l:=by
 unfold qa7
 cases l with
 | nil=>have:=L.len; simp at this; omega
 | cons a l =>
  rw [qbn,List.getD_cons_zero]
  by_cases c:m≤a
  ·rw [if_pos c,if_pos (by have:=qm9 m l; omega)]
  ·have:gBox m l=0:=by
    unfold gBox
    rw [List.filter_eq_nil_iff.mpr fun x hx=>by have:=(List.pairwise_cons.mp L.dn).1 x hx; simp; omega]; rfl
   rw [if_neg c,this,if_neg (by omega)]
theorem qg0 {c:List Int}(c0:∀ r,0≤c.getD r 0)(h:1≤c.length)(j:Nat)(m:Int):popN c j (fun l=>if m≤l.getD 0 0 then (1:Int) else 0) (List.replicate c.length 0)=popN c j (qa7 m 1) (List.replicate c.length 0):=by
 have a:=qba c0 rfl (g:=fun l=>if m≤l.getD 0 0 then (1:Int) else 0) (h:=qa7 m 1) j _ 0 (qbB c.length) fun l' L=>Int.le_of_eq (qe1 L h m)
 have b:=qba c0 rfl (g:=qa7 m 1) (h:=fun l=>if m≤l.getD 0 0 then (1:Int) else 0) j _ 0 (qbB c.length) fun l' L=>Int.le_of_eq (qe1 L h m).symm
 omega
def RwU (L:Int)(j:Nat)(H:Hp)(v:V)(p:List Int × Int):Prop:=∃ a b cc t d,v = .ref a/\H a=some (.tup [.ref b,.ref cc])/\H b=some (.tup (iv p.1))/\H cc=some (.tup [.int t,.int d])/\0≤t/\t≤2000 ^ j/\0 < d/\d≤2000 ^ j/\t * L ^ j=p.2 * d
theorem RwU.imp {L:Int}{j:Nat}{H H':Hp}{v:V}{p:List Int × Int}(k:∀ b xs,H b=some (.tup xs)->H' b=some (.tup xs))(h:RwU L j H v p):RwU L j H' v p :=
 let ⟨a,b,cc,t,d,e,h1,h2,h3,r⟩:=h; ⟨a,b,cc,t,d,e,k _ _ h1,k _ _ h2,k _ _ h3,r⟩
theorem qjE {ms ns:List Int}(h:ms.Perm ns)(o:ms.Pairwise (·≤·)):ms.reverse=qcl ns :=
 qiO ((List.reverse_perm ms).trans h) (List.pairwise_reverse.mpr (o.imp fun {a b} h=>h))
theorem qmR (ms:List Int):(iv ms).reverse=iv ms.reverse:=(List.map_reverse).symm
theorem qhW {m:Mp}{g:List Int->Mp}{i:Nat}{p:List Int × Int}(h:m[i]?=some p):qa6 (m.take (i + 1)) g=qa6 (m.take i) g ++ (g p.1).map fun q=>(q.1,p.2 * q.2):=by
 unfold qa6; rw [take_snoc h,List.flatMap_append]; simp
def indF (m:Int)(l:List Int):Int:=if m≤l.getD 0 0 then 1 else 0
theorem qdA (m:Int):∀ (F:Mp),(((F.filter fun p=>decide (m≤p.1.getD 0 0)).map (·.2)):List Int).sum=tot F (indF m)
 | []=>rfl
 | p :: F=>by
  have ih:=qdA m F
  unfold tot at ih ⊢
  rw [List.map_cons,List.sum_cons,<- ih]
  by_cases c:m≤p.1.getD 0 0
  ·rw [List.filter_cons_of_pos (by simpa using c)]
   simp only [List.map_cons,List.sum_cons]
   unfold indF
   rw [if_pos c]; omega
  ·rw [List.filter_cons_of_neg (by simpa using c)]
   unfold indF
   rw [if_neg c]; omega
theorem qfA {X:Cx}:OpR X (binaryOp .Mult) (fun x y H Q=>∃ l k xs,x = .ref l/\y = .int k/\H l=some (.tup xs)/\xs≠[]/\0≤k/\k≤1000/\xs.length≤1000/\∀ c H',Same H H'->H' c=some (.tup (List.replicate k.toNat xs).flatten)->Q (.ref c) H'):=by
 intro pins s σ H x y v u Q I rx ry h
 obtain ⟨l,k,xs,e1,e2,hl,hne,k0,k1,hx,q⟩:=h
 refine qlD pins s σ H x y v u Q I rx ry ⟨l,k,xs,e1,e2,hl,hne,k0,k1,hx,fun e=>?_,fun _ p hp=>?_⟩
 ·subst e; exact q l H (Same.refl _) (by simpa using hl)
 ·exact q p _ (sN hp _) uS
section
variable {P:Program}{w:World}{K:PySem.W.Frag}{mg:Str->Option Value}{base:Heap}
def qhL:Sp:=fun vs H Q _=>∃ (r:Addr) (xs:List V) (ts:List Int) (B:Int) (balls:Nat) (m:Int),vs=[.ref r,.int balls,.int m]/\H r=some (.tup xs)/\Shs H xs (qsF ts B)/\qfe ts B/\1≤ts.length/\ts.length≤3/\balls≤4 /\
 ∀ v H',Same H H'->ShAt H' v (Rat.divInt (popN (tpF (botF (qsF ts B)) (qsF ts B)) balls (qa7 m 1) (List.replicate ts.length 0)) (botF (qsF ts B) ^ balls))->Q v H'
theorem qjW (T:Txt2 mg)(C_l_lowest:Cal P w K mg base "_law_lowest" ["_law_top", "_law_bottom"] 2 qcO)(C_l_sum:Cal P w K mg base "_law_sum" ["_law_parts_here"] 3 qhK)(F:FunAt K mg "_law_rows" ["_law_rule_here", "_law_balls", "_law_m"] s_l_rows):Cal P w K mg base "_law_rows" ["_law_rule_here", "_law_balls", "_law_m"] 4 qhL:=by
 have S:=qeF
 refine F.cal qeF (fun vs H Q E h=>?_) (fun f cdv A outer s H vs Q E hr h=>?_)
 ·obtain ⟨r,xs,ts,B,balls,m,rfl,_⟩:=h; rfl
 obtain ⟨r,xs,ts,B,balls,m,rfl,hr0,sh,RW,n1,n3,b4,k⟩:=h
 have X:=qjD RW
 rw [<- X.len] at k
 generalize hL:botF (qsF ts B)=L at X k
 generalize tpF L (qsF ts B)=c at X k
 have xl:=sh.length
 rw [List.length_map,<- X.len] at xl
 have cl:=X.len
 refine ⟨_,(@pK _ _ _ _ _ (@pZ _ _ (3) _ _ _ _ (by exact S.nd) ⋯ ⋯ (@qbb _ _ _ _ (@pC _ _ _ _ _ (@qaN _ _ _ _ _ (@pC _ _ _ _ _ (@pP _ _ _ _ _ _ _ _ qfA (@qaN _ _ _ _ _ (@pC _ _ _ _ _ pI pN ⋯)) (@qag _ _ _ _ _ _ _ _ _ qai ⋯ (by exact T.z_len) (by exact qa4) (@pC _ _ _ _ _ (pv 0) pN ⋯) ⋯ ⋯ ⋯ ⋯)) (@pC _ _ _ _ _ (@qaN _ _ _ _ _ (@pC _ _ _ _ _ pI (@pC _ _ _ _ _ pI pN ⋯) ⋯)) pN ⋯) ⋯)) pN ⋯)) ⋯ ⋯) (@pK _ _ _ _ _ (@qbj _ _ _ _ _ _ _ _ (by exact PassesOwn.never) ⋯ (@qaA _ _ _ _ _ _ ⋯ (by exact T.z_range) (@pC _ _ _ _ _ (pv 1) pN ⋯) ⋯) (@pG _ _ (4) _ (by exact S.nd) ⋯ ⋯ ⋯) (@pK _ _ _ _ _ (@pZ _ _ (5) _ _ _ _ (by exact S.nd) ⋯ ⋯ (@qbb _ _ _ _ pN) ⋯ ⋯) (@pK _ _ _ _ _ (@qbj _ _ _ _ _ _ _ _ (by exact PassesOwn.never) ⋯ (@qaS _ _ _ _ (pv 3)) (@qbs _ _ _ _ _ _ ⋯ (@qab _ _ _ _ _ (@pG _ _ (6) _ (by exact S.nd) ⋯ ⋯ ⋯) (@qab _ _ _ _ _ (@pG _ _ (7) _ (by exact S.nd) ⋯ ⋯ ⋯) qas ⋯) ⋯) ⋯ ⋯) (@pO _ _ _ (@qbj _ _ _ _ _ _ _ _ (by exact PassesOwn.never) ⋯ (@qjN false _ _ _ _ _ _ _ _ ⋯ (by exact T.z_enumerate) (@pC _ _ _ _ _ (pv 0) pN ⋯) ⋯) (@qbs _ _ _ _ _ _ ⋯ (@qab _ _ _ _ _ (@pG _ _ (8) _ (by exact S.nd) ⋯ ⋯ ⋯) (@qab _ _ _ _ _ (@pG _ _ (9) _ (by exact S.nd) ⋯ ⋯ ⋯) qas ⋯) ⋯) ⋯ ⋯) (@pK _ _ _ _ _ (@pZ _ _ (10) _ _ _ _ (by exact S.nd) ⋯ ⋯ (@qaB _ _ _ _ _ _ _ _ _ qbc ⋯ (by exact T.z_list) (by exact qdo) (@pC _ _ _ _ _ (pv 6) pN ⋯) ⋯ ⋯ ⋯ ⋯) ⋯ ⋯) (@pK _ _ _ _ _ (@qbH _ _ _ _ _ _ (@pP _ _ _ _ _ _ _ _ qaF (@qax _ _ _ _ _ _ _ qbd (pv 10) (pv 8) (by exact (fun _ _=>rfl))) pI) (@qgn _ _ _ _ _ _ _ (pv 10) (pv 8) set_list ⋯) ⋯ ⋯ ⋯) (@pO _ _ _ (@qfx _ _ _ _ (@qmE _ _ _ _ _ _ _ _ _ _ _ _ (by exact PySem.F.plainAttrs_list) (by exact PySem.F.slot_list_append) (by exact PySem.F.type_list_append) qbM (pv 5) (@pC _ _ _ _ _ (@qaN _ _ _ _ _ (@pC _ _ _ _ _ (@qaB _ _ _ _ _ _ _ _ _ qaM ⋯ (by exact T.z_tuple) (by exact qbE) (@pC _ _ _ _ _ (@qlu _ _ _ _ _ _ _ _ (@qag _ _ _ _ _ _ _ _ _ qcI ⋯ (by exact T.z_sorted) (by exact qco) (@pC _ _ _ _ _ (pv 10) pN ⋯) ⋯ ⋯ ⋯ ⋯)) pN ⋯) ⋯ ⋯ ⋯ ⋯) (@pC _ _ _ _ _ (@qaN _ _ _ _ _ (@pC _ _ _ _ _ (@pP _ _ _ _ _ _ _ _ qbf (@qax _ _ _ _ _ _ _ qbg (pv 7) pI (by exact (fun _ _=>rfl))) (@qax _ _ _ _ _ _ _ qbg (pv 9) pI (by exact (fun _ _=>rfl)))) (@pC _ _ _ _ _ (@pP _ _ _ _ _ _ _ _ qbf (@qax _ _ _ _ _ _ _ qbg (pv 7) pI (by exact (fun _ _=>rfl))) (@qax _ _ _ _ _ _ _ qbg (pv 9) pI (by exact (fun _ _=>rfl)))) pN ⋯) ⋯)) pN ⋯) ⋯)) pN ⋯) ⋯ ⋯ ⋯ ⋯ ⋯) ⋯)))) ⋯)) ⋯) (@pO _ _ _ (@pZ _ _ (3) _ _ _ _ (by exact S.nd) ⋯ ⋯ (pv 5) ⋯ ⋯)))) ⋯) (@pO _ _ _ (@qan _ _ _ _ (@cc _ _ _ _ _ _ _ _ _ _ (by exact C_l_sum) (by exact (hr.mono (by decide))) (@pC _ _ _ _ _ (@qaE _ _ _ _ _ _ _ _ _ _ _ _ _ ⋯ (by exact (fun _ _ h=>h)) (by decide +kernel) ⋯ (by decide +kernel) (by exact qaJ rfl) (by exact Sees.frees ["_law_load", "_law_weight"] [("_law_m",2)] (qal ⟨rfl,rfl⟩ qaK)) (@qaS _ _ _ _ (pv 3)) (fun _ _ _ _ _ => @qaY _ _ _ _ _ (2) ⋯ (@qab _ _ _ _ _ (@pG _ _ (0) _ (by exact (show (["_law_load", "_law_weight", "_law_m"]:List Str).Nodup by decide +kernel)) ⋯ ⋯ ⋯) (@qab _ _ _ _ _ (@pG _ _ (1) _ (by exact (show (["_law_load", "_law_weight", "_law_m"]:List Str).Nodup by decide +kernel)) ⋯ ⋯ ⋯) qas ⋯) ⋯) ⋯ ⋯) (fun _ _ _ _ _=>(@qcq _ _ _ (@qaL _ _ _ _ _ _ _ _ qg3 (@qax _ _ _ _ _ _ _ qa9 (pv 0) pI (by exact (fun _ _=>rfl))) (pv 2) (by exact (qaO _))))) (fun _ _ _ _ _=>(@cc _ _ _ _ _ _ _ _ _ _ (by exact C_l_lowest) (by exact (hr.mono (by decide))) (@pC _ _ _ _ _ (@qax _ _ _ _ _ _ _ qa9 (pv 1) pI (by exact (fun _ _=>rfl))) (@pC _ _ _ _ _ (@qax _ _ _ _ _ _ _ qa9 (pv 1) pI (by exact (fun _ _=>rfl))) pN ⋯) ⋯) ⋯ ⋯ ⋯ ⋯)) ⋯) pN ⋯) ⋯ ⋯ ⋯ ⋯))))),?_⟩
 refine ⟨lz 1 rfl,fun z0 hz0=>?_⟩
 have s_A0:=sN hz0 (.tup [.int 0])
 have g_z0:upd H z0 (.tup [.int 0]) z0=some (.tup [.int 0]):=uS
 generalize upd H z0 (.tup [.int 0])=A0 at s_A0 g_z0 ⊢
 refine ⟨_,rfl,r,_,rfl,.inr (SqT.of (s_A0 _ _ hr0)),z0,_,_,rfl,rfl,g_z0,by simp,by omega,by omega,by decide,fun z1 A1 sA1 hz1=>?_⟩
 rw [rep1,show ((xs.length:Nat):Int).toNat=c.length by omega] at hz1
 refine ⟨lz 2 rfl,fun z2 hz2=>?_⟩
 have s_A2:=sN hz2 (.tup [.int 1,.int 1])
 have g_z2:upd A1 z2 (.tup [.int 1,.int 1]) z2=some (.tup [.int 1,.int 1]):=uS
 generalize upd A1 z2 (.tup [.int 1,.int 1])=A2 at s_A2 g_z2 ⊢
 refine ⟨lz 2 rfl,fun z3 hz3=>?_⟩
 have s_A3:=sN hz3 (.tup [.ref z1,.ref z2])
 have g_z3:upd A2 z3 (.tup [.ref z1,.ref z2]) z3=some (.tup [.ref z1,.ref z2]):=uS
 generalize upd A2 z3 (.tup [.ref z1,.ref z2])=A3 at s_A3 g_z3 ⊢
 refine ⟨lz 1 rfl,fun z4 hz4=>?_⟩
 have s_A4:=sN hz4 (.lst [.ref z3])
 have g_z4:upd A3 z4 (.lst [.ref z3]) z4=some (.lst [.ref z3]):=uS
 generalize upd A3 z4 (.lst [.ref z3])=A4 at s_A4 g_z4 ⊢
 have sA:Same H A4:=s_A0.trans (sA1.trans (s_A2.trans (s_A3.trans s_A4)))
 have hz1:=(s_A2.trans (s_A3.trans s_A4)) _ _ hz1
 have g_z2:=(s_A3.trans s_A4) _ _ g_z2
 have g_z3:=(s_A4) _ _ g_z3
 have pw:∀ j:Nat,j≤4->(2000:Int) ^ j≤16000000000000:=fun j hj=>by
  match j,hj with
  | 0,_=>decide
  | 1,_=>decide
  | 2,_=>decide
  | 3,_=>decide
  | 4,_=>decide
 have few:∀ j:Nat,j≤4->(qbw c j).length≤81:=fun j hj=>by
  have h1:=qeH c j
  have h2:c.length ^ j≤3 ^ 4:=Nat.le_trans (Nat.pow_le_pow_left (by omega) j) (Nat.pow_le_pow_right (by decide) hj)
  omega
 refine ⟨_,rfl,(balls:Int),rfl,by omega,by omega,qfQ (qbp (lo:=0)) (fun i σ H'=>Same H H'/\∃ lo ys o4 o5 o6 o7 o8 o9 o10,σ=[some (.ref r),some (.int balls),some (.int m),some (.ref lo),o4,o5,o6,o7,o8,o9,o10]/\H' lo=some (.lst ys)/\Paired (RwU L i H') ys (qbw c i)) ?_ (fun _ _ _ _=>trivial) ?_ ?_⟩
 ·exact ⟨sA,z4,_,_,_,_,_,_,_,_,rfl,g_z4,.cons ⟨z3,z1,z2,1,1,rfl,g_z3,hz1,g_z2,by decide,by decide,by decide,by decide,by simp⟩ .nil⟩
 ·rintro i x σ X1 H1 hi ⟨s1,lo,ys,o4,o5,o6,o7,o8,o9,o10,rfl,hlo,prs⟩ ⟨rfl,rfl⟩
  have hi':i < balls:=by omega
  have yl:=Paired.length prs
  have fi:=few i (by omega)
  have pwi:=pw i (by omega)
  refine gN_ ⟨lz 0 rfl,fun q hq=>?_⟩
  have s_B1:=sN hq (.lst [])
  have g_q:upd H1 q (.lst []) q=some (.lst []):=uS
  generalize upd H1 q (.lst [])=B1 at s_B1 g_q ⊢
  have hlo1:=s_B1 _ _ hlo
  have loq:lo≠q:=qae hlo hq
  have rq:r≠q:=qae (s1 _ _ hr0) hq
  refine ⟨_,rfl,lo,rfl,⟨_,SqL.of hlo1⟩,qfQ (qaU (xs:=ys)) (fun j σ H'=>SmB q H1 H'/\∃ zs o6 o7 o8 o9 o10,σ=[some (.ref r),some (.int balls),some (.int m),some (.ref lo),some (.int (0 + (i:Int))),some (.ref q),o6,o7,o8,o9,o10]/\H' q=some (.lst zs)/\Paired (RwU L (i + 1) H') zs (qa6 ((qbw c i).take j) (allG c))) ?_ ?_ ?_ ?_⟩
  ·exact ⟨.of s_B1,[],_,_,_,_,_,rfl,g_q,.nil⟩
  ·rintro j σ H' ⟨sB,_⟩
   exact sB _ _ loq hlo
  ·rintro j x σ X2 H2 hj ⟨sB2,zs,o6,o7,o8,o9,o10,rfl,hq2,prz⟩ ⟨rfl,hx⟩
   obtain ⟨p,hp,a1,b1,c1,t,d,rfl,ha1,hb1,hc1,t0,t1,d0,d1,td⟩:=qaz prs hx
   have tk:∀ {b:Addr} {zs:List V},H1 b=some (.tup zs)->b≠q:=fun e=>qae e hq
   have ha2:=sB2 _ _ (tk ha1) ha1
   have hb2:=sB2 _ _ (tk hb1) hb1
   have hc2:=sB2 _ _ (tk hc1) hc1
   have pl:=qft c i p (List.mem_of_getElem? hp)
   have zl:=Paired.length prz
   have zl2:=qcQ ((qbw c i).take j) (allG c) 3 fun l=>by rw [qcU]; omega
   rw [List.length_take] at zl2
   refine ⟨a1,_,rfl,SqT.of ha2,rfl,_,_,rfl,_,_,rfl,rfl,?_⟩
   have hr2:H2 r=some (.tup xs):=sB2 _ _ rq (s1 _ _ hr0)
   refine ⟨_,rfl,r,rfl,⟨_,SqT.of hr2⟩,qfQ (qeu (xs:=xs)) (fun u σ H'=>SmB q H1 H'/\∃ zs o8 o9 o10,σ=[some (.ref r),some (.int balls),some (.int m),some (.ref lo),some (.int (0 + (i:Int))),some (.ref q),some (.ref b1),some (.ref c1),o8,o9,o10]/\H' q=some (.lst zs)/\Paired (RwU L (i + 1) H') zs (qa6 ((qbw c i).take j) (allG c) ++ ((allG c p.1).take u).map fun g=>(g.1,p.2 * g.2))) ?_ ?_ ?_ ?_⟩
   ·exact ⟨sB2,zs,_,_,_,rfl,hq2,by simpa using prz⟩
   ·rintro u σ H' ⟨s',_⟩
    exact s' _ _ rq (s1 _ _ hr0)
   ·rintro u x σ H3 X3 hu ⟨sB3,zs3,o8,o9,o10,rfl,hq3,pr3⟩ ⟨tt,y,rfl,htt,rfl,hy⟩
    obtain ⟨qu,hqu,cq,rfl,hcq⟩:=sh.at hy
    obtain ⟨rw1,nq0,nq1,dq1⟩:=X.row u qu hqu
    have dq0:(0:Int) < (qu.den:Int):=by have:=qu.den_pos; omega
    have hul:u < c.length:=by omega
    have up:u < p.1.length:=by rw [pl.len]; exact hul
    have s_C1:=sN htt (.tup [.int (u:Int),.ref cq])
    have g_tt:upd H3 tt (.tup [.int (u:Int),.ref cq]) tt=some (.tup [.int (u:Int),.ref cq]):=uS
    generalize upd H3 tt (.tup [.int (u:Int),.ref cq])=C1 at s_C1 g_tt ⊢
    refine ⟨tt,_,rfl,SqT.of g_tt,rfl,_,_,rfl,_,_,rfl,rfl,?_⟩
    have hb3:=sB3 _ _ (tk hb1) hb1
    have hc3:=sB3 _ _ (tk hc1) hc1
    have hcq3:=sB3 _ _ (tk (s1 _ _ hcq)) (s1 _ _ hcq)
    refine ⟨_,rfl,b1,_,rfl,.inr (SqT.of (s_C1 _ _ hb3)),fun l hl=>?_⟩
    have sl:=sN hl (.lst (iv p.1))
    refine ⟨_,rfl,_,rfl,l,_,_,_,rfl,rfl,SqL.of uS,qdi up,_,_,rfl,rfl,_,rfl,_,rfl,l,_,_,u,rfl,rfl,uS,qkW (by simpa using up),?_⟩
    rw [qfj,qkX]
    have s_C2:=sN hl (.lst (iv (p.1.set u (p.1.getD u 0 + 1))))
    have g_l:upd C1 l (.lst (iv (p.1.set u (p.1.getD u 0 + 1)))) l=some (.lst (iv (p.1.set u (p.1.getD u 0 + 1)))):=uS
    generalize upd C1 l (.lst (iv (p.1.set u (p.1.getD u 0 + 1))))=C2 at s_C2 g_l ⊢
    have l3:p.1.length≤3:=by rw [pl.len]; omega
    refine ⟨_,rfl,.inl ⟨rfl,_,SqL.of ((s_C1.trans s_C2) _ _ hq3)⟩,_,rfl,l,_,rfl,g_l,by simp; omega,fun l2 ms hl2 pm od=>?_⟩
    have s_C3:=sN hl2 (.lst (iv ms))
    have g_l2:upd C2 l2 (.lst (iv ms)) l2=some (.lst (iv ms)):=uS
    generalize upd C2 l2 (.lst (iv ms))=C3 at s_C3 g_l2 ⊢
    refine ⟨l2,_,rfl,SqL.of g_l2,fun l3 hl3=>?_⟩
    rw [qmR,qjE pm od]
    have s_C4:=sN hl3 (.lst (iv (qcl (p.1.set u (p.1.getD u 0 + 1)))))
    have g_l3:upd C3 l3 (.lst (iv (qcl (p.1.set u (p.1.getD u 0 + 1))))) l3=some (.lst (iv (qcl (p.1.set u (p.1.getD u 0 + 1))))):=uS
    generalize upd C3 l3 (.lst (iv (qcl (p.1.set u (p.1.getD u 0 + 1)))))=C4 at s_C4 g_l3 ⊢
    refine ⟨l3,_,rfl,.inl ⟨SqL.of g_l3,fun tn htn=>?_⟩⟩
    have s_C5:=sN htn (.tup (iv (qcl (p.1.set u (p.1.getD u 0 + 1)))))
    have g_tn:upd C4 tn (.tup (iv (qcl (p.1.set u (p.1.getD u 0 + 1))))) tn=some (.tup (iv (qcl (p.1.set u (p.1.getD u 0 + 1))))):=uS
    generalize upd C4 tn (.tup (iv (qcl (p.1.set u (p.1.getD u 0 + 1)))))=C5 at s_C5 g_tn ⊢
    have sC5:Same H3 C5:=s_C1.trans (s_C2.trans (s_C3.trans (s_C4.trans s_C5)))
    have hc5:=sC5 _ _ hc3
    have hq5:=sC5 _ _ hcq3
    refine ⟨_,rfl,c1,_,_,_,rfl,rfl,SqT.of hc5,rfl,_,rfl,cq,_,_,_,rfl,rfl,SqT.of hq5,rfl,_,_,rfl,rfl,.inr ⟨by omega,by omega⟩,_,rfl,c1,_,_,_,rfl,rfl,SqT.of hc5,rfl,_,rfl,cq,_,_,_,rfl,rfl,SqT.of hq5,rfl,_,_,rfl,rfl,.inr ⟨by omega,by omega⟩,lz 2 rfl,fun t5 ht5=>?_⟩
    have s_C6:=sN ht5 (.tup [.int (t * qu.num),.int (d * (qu.den:Int))])
    have g_t5:upd C5 t5 (.tup [.int (t * qu.num),.int (d * (qu.den:Int))]) t5=some (.tup [.int (t * qu.num),.int (d * (qu.den:Int))]):=uS
    generalize upd C5 t5 (.tup [.int (t * qu.num),.int (d * (qu.den:Int))])=C6 at s_C6 g_t5 ⊢
    refine ⟨lz 2 rfl,fun t6 ht6=>?_⟩
    have s_C7:=sN ht6 (.tup [.ref tn,.ref t5])
    have g_t6:upd C6 t6 (.tup [.ref tn,.ref t5]) t6=some (.tup [.ref tn,.ref t5]):=uS
    generalize upd C6 t6 (.tup [.ref tn,.ref t5])=C7 at s_C7 g_t6 ⊢
    have sC7:Same H3 C7:=s_C1.trans (s_C2.trans (s_C3.trans (s_C4.trans (s_C5.trans (s_C6.trans s_C7)))))
    have g_tn:=(s_C6.trans s_C7) _ _ g_tn
    have g_t5:=(s_C7) _ _ g_t5
    have hq7:=sC7 _ _ hq3
    have z3l:=Paired.length pr3
    have gl:=qcU c p.1
    refine ⟨q,_,_,rfl,rfl,hq7,lzl (by rw [z3l,List.length_append,List.length_map,List.length_take]; omega),?_⟩
    have keep:∀ b xs,C7 b=some (.tup xs)->upd C7 q (.lst (zs3 ++ [.ref t6])) b=some (.tup xs):=tupL hq7
    refine ⟨(sB3.trans (.of sC7)).upd _,_,_,_,_,rfl,uS,?_⟩
    have eg:(allG c p.1)[u]?=some (putL p.1 u,c.getD u 0):=by
     unfold allG; rw [List.getElem?_map,List.getElem?_range hul]; rfl
    rw [take_snoc eg,List.map_append,<- List.append_assoc]
    refine qb2 (Paired.mapP pr3 fun _ _ z=>z.imp fun b xs e=>keep _ _ (sC7 _ _ e)) ⟨t6,tn,t5,_,_,rfl,keep _ _ g_t6,keep _ _ g_tn,keep _ _ g_t5,Int.mul_nonneg t0 nq0,?_,Int.mul_pos d0 dq0,?_,?_⟩
    ·rw [Int.pow_succ]; exact Int.mul_le_mul t1 nq1 nq0 (Int.le_of_lt (Int.pow_pos (by decide)))
    ·rw [Int.pow_succ]; exact Int.mul_le_mul d1 dq1 (by omega) (Int.le_of_lt (Int.pow_pos (by decide)))
    ·show t * qu.num * L ^ (i + 1)=p.2 * c.getD u 0 * (d * (qu.den:Int))
     rw [Int.pow_succ]
     calc t * qu.num * (L ^ i * L)=(t * L ^ i) * (qu.num * L):=by grind
      _=(p.2 * d) * (c.getD u 0 * (qu.den:Int)):=by rw [td,rw1]
      _=_:=by grind
   ·rintro σ H3 ⟨sB3,zs3,o8,o9,o10,rfl,hq3,pr3⟩
    refine ⟨sB3,zs3,_,_,_,_,_,rfl,hq3,?_⟩
    rw [qhW hp]
    rw [xl,<- qcU c p.1,List.take_length] at pr3
    exact pr3
  ·rintro σ H2 ⟨sB2,zs,o6,o7,o8,o9,o10,rfl,hq2,prz⟩
   rw [yl,List.take_length] at prz
   refine ⟨_,rfl,?_⟩
   refine ⟨fun b u e=>sB2 b u (qae (s1 _ _ e) hq) (s1 _ _ e),q,zs,_,_,_,_,_,_,_,rfl,hq2,prz⟩
 ·rintro σ H1 ⟨s1,lo,ys,o4,o5,o6,o7,o8,o9,o10,rfl,hlo,prs⟩
  have yl:=Paired.length prs
  rw [show ((balls:Int)).toNat=balls by omega] at prs yl
  have fb:=few balls b4
  have pwb:=pw balls b4
  have LW:0 < L ^ balls:=Int.pow_pos X.l0
  have LW2:L ^ balls≤16000000000000:=by
   obtain ⟨l',rfl⟩:∃ l':Nat,L=(l':Int):=⟨L.toNat,by have:=X.l0; omega⟩
   have h1:l' ^ balls≤2000 ^ balls:=Nat.pow_le_pow_left (by have:=X.l1; omega) _
   have h2:((l' ^ balls:Nat):Int)≤((2000 ^ balls:Nat):Int):=by exact_mod_cast h1
   rw [Int.natCast_pow,Int.natCast_pow] at h2
   exact Int.le_trans h2 pwb
  have bt:∀ x:Int,0≤x->x≤16000000000000->Bt 2000 x:=fun x h0 h1=>(Bt.of_lt (n:=50) (show x.natAbs < 2 ^ 50 by have:(2:Nat) ^ 50=1125899906842624:=rfl; omega)).mono (by decide)
  refine ⟨_,rfl,lo,rfl,⟨_,SqL.of hlo⟩,qb0 (qaU (xs:=ys)) (fun p i zs σ' H'=>Same H1 H'/\(∃ o1 o2,σ'=[o1,o2,some (.int m)])/\Shs H' zs ((((qbw c balls).take i).filter fun p=>decide (m≤p.1.getD 0 0)).map fun p=>Rat.divInt p.2 (L ^ balls))) (by omega) ?_ ?_ ?_ ?_⟩
  ·exact fun p hp=>⟨sN hp _,⟨_,_,rfl⟩,.nil⟩
  ·rintro p i zs σ' H' hp ⟨s',_⟩
   exact s' _ _ hlo
  ·rintro p i zs σ' H' x H'' hp hi hl' ⟨s',⟨o1,o2,rfl⟩,sh'⟩ hp' ⟨rfl,hx⟩ Q1 Q2 h1 h2
   obtain ⟨pp,hpp,a1,b1,c1,t,d,rfl,ha1,hb1,hc1,t0,t1,d0,d1,td⟩:=qaz prs hx
   have pl:=qft c balls pp (List.mem_of_getElem? hpp)
   have p1:0 < pp.1.length:=by rw [pl.len]; omega
   have e:=take_snoc hpp
   refine ⟨a1,_,rfl,s' _ _ ha1,rfl,_,_,rfl,_,_,rfl,rfl,?_⟩
   refine ⟨_,rfl,b1,_,_,_,rfl,rfl,s' _ _ hb1,qdi p1,_,rfl,_,_,rfl,rfl,_,rfl,?_⟩
   refine ite2 (fun cc=>?_) (fun cc=>?_)
   ·have cc':m≤pp.1.getD 0 0:=of_decide_eq_true cc
    refine ⟨_,rfl,c1,_,_,_,rfl,rfl,s' _ _ hc1,rfl,_,rfl,c1,_,_,_,rfl,rfl,s' _ _ hc1,rfl,_,_,rfl,t0,d0,(bt d (by omega) (by omega)).mono (by decide),fun v H5 s5 pv=>h1 _ _ _ (s5 _ _ hp') ⟨qao hp (s'.trans s5) _,⟨_,_,rfl⟩,?_⟩⟩
    rw [qdu d0,show Rat.divInt t d=Rat.divInt pp.2 (L ^ balls) from (Rat.divInt_eq_divInt_iff (by omega) (by omega)).mpr td] at pv
    rw [e,List.filter_append,List.map_append,List.filter_cons_of_pos (by simpa using cc')]
    exact Shs.snoc (qeB (s5 _ _ hp') pv) (Shs.updL (s5 _ _ hp') (sh'.same s5))
   ·have cc':¬ m≤pp.1.getD 0 0:=fun z=>cc (decide_eq_true z)
    refine h2 _ _ hp' ⟨s',⟨_,_,rfl⟩,?_⟩
    rw [e,List.filter_append,List.map_append,List.filter_cons_of_neg (by simpa using cc')]
    simpa using sh'
  ·rintro p zs σ' H' hp ⟨s',_,sh'⟩ hp' hl'
   rw [yl,List.take_length] at sh'
   have et:=qdA m (qbw c balls)
   have ei:=qg0 X.nd (by omega) balls m
   have es:tot (qbw c balls) (indF m)=popN c balls (qa7 m 1) (List.replicate c.length 0):=by rw [qew,<- ei]; rfl
   have bd:=qef X.nd (g:=qa7 m 1) (fun l=>by unfold qa7; split <;> decide) (fun l=>by unfold qa7; split <;> decide) balls
   rw [X.sum,<- es,<- et] at bd
   refine ⟨p,zs,((qbw c balls).filter fun p=>decide (m≤p.1.getD 0 0)).map (·.2),L ^ balls,rfl,hp',by rw [List.map_map]; exact sh',LW,bt _ (by omega) LW2,fun x hx=>?_,bt _ bd.1 (by omega),?_,fun v H5 s5 pv=>?_⟩
   ·obtain ⟨y,hy,rfl⟩:=List.mem_map.mp hx
    exact qhX X.nd balls y (List.mem_filter.mp hy).1
   ·rw [List.length_map]
    have:=List.length_filter_le (fun p:List Int × Int=>decide (m≤p.1.getD 0 0)) (qbw c balls)
    omega
   ·rw [et,es] at pv
    exact k v H5 (s1.trans (s'.trans s5)) pv
end
theorem qhn (l:List Int):wtF (botF ([(l,(1:Rat))].map (·.2))) [(l,1)]=[(l,1)]:=by
 have e:(1:Rat).num * (botF [1] / ((1:Rat).den:Int))=1:=by decide
 show [(l,(1:Rat).num * (botF [1] / ((1:Rat).den:Int)))]=_
 rw [e]
theorem qjj (l:List Int):botF ([(l,(1:Rat))].map (·.2))=1:=by
 show botF [(1:Rat)]=1
 decide
theorem qmc (n:Nat):Cnt [(List.replicate n 0,1)] n 0 1:=by
 refine ⟨by simp [qaf],fun k hk=>?_,fun k hk=>?_,by simp [qau]⟩
 ·have:k=List.replicate n 0:=by simpa [qaf] using hk
  rw [this]; exact qbB n
 ·have:k=List.replicate n 0:=by simpa [qaf] using hk
  rw [this,qaI,if_pos rfl]; show (0:Int) < 1; decide
structure MX (L:Int)(n j:Nat)(M:Mp):Prop where
 nd:(qaf M).Nodup
 ld:∀ k∈qaf M,LdOk k n j
 pos:∀ k∈qaf M,0 < getM M k
 sum:(qau M).sum=L ^ j
 few:M.length≤60
 le:∀ k,getM M k≤L ^ j
 vals:∀ x∈qau M,0≤x/\x≤L ^ j
theorem qj6 {ts c:List Int}{B L:Int}(X:RX ts B L c)(n6:ts.length≤6){j:Nat}(hj:j≤8):MX L ts.length j (itF c j [(List.replicate ts.length 0,1)]):=by
 obtain ⟨C,hs⟩:=qkZ (qmc ts.length) X.len X.nn j
 have e1:(qau [(List.replicate ts.length (0:Int),(1:Int))]).sum=1:=by simp [qau]
 rw [e1,X.sum,Int.one_mul] at hs C
 have ld:∀ k∈qaf (itF c j [(List.replicate ts.length 0,1)]),LdOk k ts.length j:=fun k hk=>by have:=C.ld k hk; rwa [Int.zero_add] at this
 have le:∀ k,getM (itF c j [(List.replicate ts.length 0,1)]) k≤L ^ j:=fun k=>by rw [<- hs]; exact qlV C.nd C.pos
 refine ⟨C.nd,ld,C.pos,hs,?_,le,fun x hx=>?_⟩
 ·have C':Cnt (itF c j [(List.replicate ts.length 0,1)]) ts.length (j:Nat) (L ^ j):=⟨C.nd,ld,C.pos,by omega⟩
  exact Nat.le_trans (qmf C') (cap12 ⟨ts.length,by omega⟩ ⟨j,by omega⟩)
 ·obtain ⟨p,hp,rfl⟩:=List.mem_map.mp hx
  have h1:=qcS C.nd hp
  have h2:=C.pos p.1 (List.mem_map_of_mem hp)
  have h3:=le p.1
  omega
theorem pw8 {L:Int}(l0:0 < L)(l1:L≤2000){j:Nat}(hj:j≤8):0 < L ^ j/\L ^ j≤256000000000000000000000000:=by
 refine ⟨Int.pow_pos l0,?_⟩
 obtain ⟨l',rfl⟩:∃ l':Nat,L=(l':Int):=⟨L.toNat,by omega⟩
 have h1:l' ^ j≤2000 ^ 8:=Nat.le_trans (Nat.pow_le_pow_left (by omega) j) (Nat.pow_le_pow_right (by decide) hj)
 have h2:((l' ^ j:Nat):Int)≤((2000 ^ 8:Nat):Int):=by exact_mod_cast h1
 rw [Int.natCast_pow] at h2
 exact h2
theorem qfU {x:Int}(h0:0≤x)(h:x≤2560000000000000000000000000):Bt 100 x:=Bt.of_lt (show x.natAbs < 2 ^ 100 by have:(2:Nat) ^ 100=1267650600228229401496703205376:=rfl; omega)
theorem qmZ {ts:List Int}{B:Int}(R:qfe ts B)(n6:ts.length≤6){balls:Nat}(hb:balls≤8):Fit (qsF ts B) [(List.replicate ts.length 0,1)] balls:=by
 have X:=qjD R
 have l1:=X.l1
 refine ⟨by simp,by simp,fun r hr=>?_,by simpa using n6,fun r hr=>?_,fun q hq=>?_,by simp,by rw [qjj]; decide,by omega,by omega,fun j hj=>?_,fun j hj x hx=>?_⟩
 ·obtain rfl:r=(List.replicate ts.length 0,1):=by simpa using hr
  simp
 ·obtain rfl:r=(List.replicate ts.length 0,1):=by simpa using hr
  show SB 50 (1:Rat)
  exact ⟨by decide,by decide⟩
 ·obtain ⟨i,hi⟩:=List.getElem?_of_mem hq
  obtain ⟨_,h1,h2,h3⟩:=X.row i q hi
  have d0:=q.den_pos
  exact ⟨Bt.of_lt (Nat.lt_of_le_of_lt (m:=2000) (by omega) (by decide)),Bt.of_lt (Nat.lt_of_le_of_lt (m:=2000) (by omega) (by decide))⟩
 ·rw [qhn]; exact (qj6 X n6 (by omega)).few
 ·rw [qhn] at hx
  have h1:=(qj6 X n6 (j:=j) (by omega)).vals x hx
  have h2:=(pw8 X.l0 X.l1 (j:=j) (by omega)).2
  exact (qfU h1.1 (by omega)).mono (by decide)
theorem qjo {ts:List Int}{B:Int}(balls:Nat):qjp (qsF ts B) [(List.replicate ts.length 0,1)] balls=sprF (itF (tpF (botF (qsF ts B)) (qsF ts B)) balls [(List.replicate ts.length 0,1)]) (botF (qsF ts B) ^ balls):=by
 unfold qjp
 rw [qhn,qjj,Int.one_mul]
theorem den_W {x W:Int}(hW:0 < W):((Rat.divInt x W).den:Int) ∣ W:=by
 have:=qbI (t:=x) hW
 rw [<- this.2]
 exact Int.ediv_dvd_of_dvd (qaV x W)
theorem mn_z {L:Int}{n j:Nat}{M:Mp}(X:MX L n j M)(hj:j≤8)(l0:0 < L)(l1:L≤2000)(n1:1≤n)(n6:n≤6):Mn (sprF M (L ^ j))/\LdR (sprF M (L ^ j)):=by
 obtain ⟨W0,W1⟩:=pw8 l0 l1 hj
 have kp:∀ r∈sprF M (L ^ j),r.1∈qaf M/\r.2=Rat.divInt (getM M r.1) (L ^ j):=fun r hr=>by
  obtain ⟨k,hk,rfl⟩:=List.mem_map.mp hr
  exact ⟨(qaX _).mem_iff.mp hk,rfl⟩
 refine ⟨⟨fun r hr=>?_,?_,L ^ j,W0,(qfU (by omega) (by omega)).mono (by decide),fun r hr=>?_⟩,fun r hr=>?_⟩
 ·obtain ⟨h1,h2⟩:=kp r hr
  have h3:=X.le r.1
  have h4:=X.pos r.1 h1
  rw [h2]
  exact (SB.divInt (qfU (by omega) (by omega)) (qfU (by omega) (by omega)) W0).mono (by decide)
 ·have:(sprF M (L ^ j)).length=M.length:=by unfold sprF; rw [List.length_map,(qaX _).length_eq]; simp [qaf]
  have:=X.few
  omega
 ·rw [(kp r hr).2]; exact den_W W0
 ·have h:=X.ld r.1 (kp r hr).1
  have hl:=h.len
  refine ⟨fun e=>by rw [e] at hl; simp at hl; omega,by omega,fun x hx=>⟨h.nn x hx,?_⟩⟩
  have:=qdN h.nn x hx
  rw [h.sum] at this
  omega
theorem qmn {ts c:List Int}{B L:Int}(X:RX ts B L c)(j:Nat)(f:List Int->Int):tot (itF c j [(List.replicate ts.length 0,1)]) f=popN c j f (List.replicate ts.length 0):=by
 rw [qkC X.nd]
 simp [tot]
theorem qdU {α:Type}(p:α->Bool)(f g:α->Int)(h:∀ a,g a=if p a=true then f a else 0):∀ l:List α,((l.filter p).map f).sum=(l.map g).sum
 | []=>rfl
 | a :: l=>by
  rw [List.map_cons,List.sum_cons,<- qdU p f g h l,h a]
  by_cases c:p a=true
  ·rw [List.filter_cons_of_pos c,if_pos c]; simp
  ·rw [List.filter_cons_of_neg c,if_neg c]; omega
theorem qmh {M:Mp}(nd:(qaf M).Nodup)(ls:List Int)(m:Nat):(((rise (qaf M)).filter fun l=>decide (brkI ls m l)).map (getM M)).sum=tot M (brkF ls m):=by
 rw [qf1 nd,qdU (g:=fun k=>getM M k * brkF ls m k)]
 ·exact qd4 ((qaX _).map _)
 ·intro k
  unfold brkF
  by_cases c:brkI ls m k
  ·rw [if_pos c,if_pos (decide_eq_true c)]; omega
  ·rw [if_neg c,if_neg (by simpa using c)]; omega
theorem qjf {c:List Int}(c0:∀ r,0≤c.getD r 0){n:Nat}(hn:c.length=n)(ls:List Int)(m j:Nat):0≤popN c j (brkF ls m) (List.replicate n 0)/\popN c j (brkF ls m) (List.replicate n 0)≤c.sum ^ j:=by
 subst hn
 exact qef c0 (fun l=>by unfold brkF; split <;> decide) (fun l=>by unfold brkF; split <;> decide) j
theorem qdS {c:List Int}(c0:∀ r,0≤c.getD r 0){n:Nat}(hn:c.length=n)(m:Int)(j:Nat):0≤popN c j (qa7 m 1) (List.replicate n 0)/\popN c j (qa7 m 1) (List.replicate n 0)≤c.sum ^ j:=by
 subst hn
 exact qef c0 (fun l=>by unfold qa7; split <;> decide) (fun l=>by unfold qa7; split <;> decide) j
theorem T_eq {ts:List Int}{B:Int}(hB:0 < B)(balls a j:Nat):tF (lcmF (ts.map fun x=>lowF x B)) (ts.map fun x=>lowF x B) balls a j=tl ((tpF (botF (qsF ts B)) (qsF ts B)).take a).sum (botF (qsF ts B) - ((tpF (botF (qsF ts B)) (qsF ts B)).take a).sum) balls (j:Int):=by
 unfold tF tl
 rw [qgO hB,qmd hB,Int.toNat_natCast]
theorem qgF {c:List Int}(c0:∀ r,0≤c.getD r 0){n:Nat}(hn:c.length=n){ls:List Int}{m:Nat}(m1:1≤m)(h0:ls.getD m 0=0)(j:Nat):popN c j (qa7 m 1) (List.replicate n 0)≤popN c j (brkF ls m) (List.replicate n 0):=by
 refine qba c0 hn j _ 0 (qbB n) fun l _=>?_
 unfold qa7 brkF
 by_cases z:1≤gBox m l
 ·have zz:brkI ls m l:=⟨m - 1,by omega,by rw [show m - 1 + 1=m by omega,h0,show ((m - 1:Nat):Int) + 1=(m:Int) by omega]; omega⟩
  rw [if_pos z,if_pos zz]; exact Int.le_refl _
 ·rw [if_neg z]; split <;> decide
theorem qcm {a b W:Int}(hW:0 < W)(h:a≤b):Rat.divInt a W≤Rat.divInt b W:=by
 have e:=qdV (a:=a) (b:=b - a) hW
 rw [show a + (b - a)=b by omega] at e
 have nn:0≤Rat.divInt (b - a) W:=Rat.divInt_nonneg (by omega) (by omega)
 rw [<- e]
 grind
theorem gN_eq {i:Nat}{x y:V}{σ:St}{H:Hp}{Q:St->Hp->Prop}(e:x=y)(h:qcK i y σ H Q):qcK i x σ H Q:=e ▸ h
section
variable {P:Program}{w:World}{K:PySem.W.Frag}{mg:Str->Option Value}{base:Heap}
def qf3:Sp:=fun vs H Q _=>∃ (r st:Addr) (xs:List V) (ts:List Int) (B:Int) (balls:Nat) (ls:List Int),vs=[.ref r,.int balls,.ref st]/\H r=some (.tup xs)/\Prs H xs (ts.map fun x=>lowF x B)/\qfe ts B/\1≤ts.length/\ts.length≤4/\balls≤8/\H st=some (.tup (iv ls))/\2≤ls.length/\ls.length≤7/\(∀ x∈ls,0≤x/\x≤ts.length)/\Fall ls/\ls.getD 0 0=ts.length/\∀ H',Same H H'->Q (.bl true) H'
theorem qie (T:Txt2 mg)(C_after:Cal P w K mg base "after" ["rule", "spread", "many"] 4 qfq)(C_alone:Cal P w K mg base "alone" ["load"] 1 qfp)(C_bound:Cal P w K mg base "bound" ["rule", "balls", "layers"] 4 qhO)(C_least_layers:Cal P w K mg base "least_layers" ["rule", "balls", "m"] 4 qd8)(C_fullest_share:Cal P w K mg base "fullest_share" ["spread", "m"] 5 qfo)
  (C_l_sum:Cal P w K mg base "_law_sum" ["_law_parts_here"] 3 qhK) (C_l_broken:Cal P w K mg base "_law_broken" ["_law_load", "_law_some"] 1 qf6) (C_l_is_no_more:Cal P w K mg base "_law_is_no_more" ["_law_one", "_law_other"] 1 qd7) (F:FunAt K mg "_law_right" ["_law_rule_here", "_law_balls", "_law_some"] s_l_right):Cal P w K mg base "_law_right" ["_law_rule_here", "_law_balls", "_law_some"] 6 qf3:=by
 have S:=qdI
 refine F.cal qdI (fun vs H Q E h=>?_) (fun f cdv A outer s H vs Q E hr h=>?_)
 ·obtain ⟨r,st,xs,ts,B,balls,ls,rfl,_⟩:=h; rfl
 obtain ⟨r,st,xs,ts,B,balls,ls,rfl,hr0,prs,RW,n1,n4,b8,hst,l2,l7,lb,lf,l0,k⟩:=h
 refine ⟨_,(@pK _ _ _ _ _ (@pZ _ _ (3) _ _ _ _ (by exact S.nd) ⋯ ⋯ (@cc _ _ _ _ _ _ _ _ _ _ (by exact C_after) (by exact (hr.mono (by decide))) (@pC _ _ _ _ _ (pv 0) (@pC _ _ _ _ _ (@cc _ _ _ _ _ _ _ _ _ _ (by exact C_alone) (by exact (hr.mono (by decide))) (@pC _ _ _ _ _ (@pP _ _ _ _ _ _ _ _ qfA (@qaN _ _ _ _ _ (@pC _ _ _ _ _ pI pN ⋯)) (@qag _ _ _ _ _ _ _ _ _ qai ⋯ (by exact T.z_len) (by exact qa4) (@pC _ _ _ _ _ (pv 0) pN ⋯) ⋯ ⋯ ⋯ ⋯)) pN ⋯) ⋯ ⋯ ⋯ ⋯) (@pC _ _ _ _ _ (pv 1) pN ⋯) ⋯) ⋯) ⋯ ⋯ ⋯ ⋯) ⋯ ⋯) (@pK _ _ _ _ _ (@pZ _ _ (4) _ _ _ _ (by exact S.nd) ⋯ ⋯ (@cc _ _ _ _ _ _ _ _ _ _ (by exact C_l_sum) (by exact (hr.mono (by decide))) (@pC _ _ _ _ _ (@qaE _ _ _ _ _ _ _ _ _ _ _ _ _ ⋯ (by exact (fun _ _ h=>h)) (by decide +kernel) ⋯ (by decide +kernel) (by exact qaJ rfl) (by exact Sees.frees ["_law_load", "_law_part"] [("_law_some",2)] (qal ⟨rfl,rfl⟩ qaK)) (@qaS _ _ _ _ (pv 3)) (fun _ _ _ _ _ => @qaY _ _ _ _ _ (2) ⋯ (@qab _ _ _ _ _ (@pG _ _ (0) _ (by exact (show (["_law_load", "_law_part", "_law_some"]:List Str).Nodup by decide +kernel)) ⋯ ⋯ ⋯) (@qab _ _ _ _ _ (@pG _ _ (1) _ (by exact (show (["_law_load", "_law_part", "_law_some"]:List Str).Nodup by decide +kernel)) ⋯ ⋯ ⋯) qas ⋯) ⋯) ⋯ ⋯) (fun _ _ _ _ _=>(@qcq _ _ _ (@qgg _ _ _ (@cc _ _ _ _ _ _ _ _ _ _ (by exact C_l_broken) (by exact (hr.mono (by decide))) (@pC _ _ _ _ _ (pv 0) (@pC _ _ _ _ _ (pv 2) pN ⋯) ⋯) ⋯ ⋯ ⋯ ⋯) ⋯))) (fun _ _ _ _ _=>(pv 1)) ⋯) pN ⋯) ⋯ ⋯ ⋯ ⋯) ⋯ ⋯) (@pK _ _ _ _ _ (@qcr _ _ _ _ _ _ _ _ (@qh0 _ _ _ _ (@qgg _ _ _ (@cc _ _ _ _ _ _ _ _ _ _ (by exact C_l_is_no_more) (by exact (hr.mono (by decide))) (@pC _ _ _ _ _ (pv 4) (@pC _ _ _ _ _ (@cc _ _ _ _ _ _ _ _ _ _ (by exact C_bound) (by exact (hr.mono (by decide))) (@pC _ _ _ _ _ (pv 0) (@pC _ _ _ _ _ (pv 1) (@pC _ _ _ _ _ (pv 2) pN ⋯) ⋯) ⋯) ⋯ ⋯ ⋯ ⋯) pN ⋯) ⋯) ⋯ ⋯ ⋯ ⋯) ⋯)) (@pO _ _ _ (@qan _ _ _ _ qh8)) qa8) (@pK _ _ _ _ _ (@pZ _ _ (5) _ _ _ _ (by exact S.nd) ⋯ ⋯ (@qag _ _ _ _ _ _ _ _ _ (qja ⋯) ⋯ (by exact T.z_min) (by exact qk7) (@pC _ _ _ _ _ pI (@pC _ _ _ _ _ (@qag _ _ _ _ _ _ _ _ _ qai ⋯ (by exact T.z_len) (by exact qa4) (@pC _ _ _ _ _ (pv 2) pN ⋯) ⋯ ⋯ ⋯ ⋯) pN ⋯) ⋯) ⋯ ⋯ ⋯ ⋯) ⋯ ⋯) (@pK _ _ _ _ _ (@pZ _ _ (6) _ _ _ _ (by exact S.nd) ⋯ ⋯ (@qax _ _ _ _ _ _ _ qbg (@cc _ _ _ _ _ _ _ _ _ _ (by exact C_least_layers) (by exact (hr.mono (by decide))) (@pC _ _ _ _ _ (pv 0) (@pC _ _ _ _ _ (pv 1) (@pC _ _ _ _ _ (pv 5) pN ⋯) ⋯) ⋯) ⋯ ⋯ ⋯ ⋯) pI (by exact (fun _ _=>rfl))) ⋯ ⋯) (@pK _ _ _ _ _ (@qcr _ _ _ _ _ _ _ _ (@qh0 _ _ _ _ (@qgg _ _ _ (@cc _ _ _ _ _ _ _ _ _ _ (by exact C_l_is_no_more) (by exact (hr.mono (by decide))) (@pC _ _ _ _ _ (@cc _ _ _ _ _ _ _ _ _ _ (by exact C_fullest_share) (by exact (hr.mono (by decide))) (@pC _ _ _ _ _ (pv 3) (@pC _ _ _ _ _ (pv 5) pN ⋯) ⋯) ⋯ ⋯ ⋯ ⋯) (@pC _ _ _ _ _ (pv 6) pN ⋯) ⋯) ⋯ ⋯ ⋯ ⋯) ⋯)) (@pO _ _ _ (@qan _ _ _ _ qh8)) qa8) (@pO _ _ _ (@qan _ _ _ _ (@cc _ _ _ _ _ _ _ _ _ _ (by exact C_l_is_no_more) (by exact (hr.mono (by decide))) (@pC _ _ _ _ _ (pv 6) (@pC _ _ _ _ _ (@cc _ _ _ _ _ _ _ _ _ _ (by exact C_bound) (by exact (hr.mono (by decide))) (@pC _ _ _ _ _ (pv 0) (@pC _ _ _ _ _ (pv 1) (@pC _ _ _ _ _ (@qcg _ _ _ _ _ _ _ _ _ _ qhQ (@pP _ _ _ _ _ _ _ _ qic (@qcg _ _ _ _ _ _ _ _ _ _ qhQ (pv 2) qdc (@qcs _ _ _ (pv 5))) (@qaN _ _ _ _ _ (@pC _ _ _ _ _ pI pN ⋯))) qdc (@qcs _ _ _ (@pP _ _ _ _ _ _ _ _ qaF (pv 5) pI))) pN ⋯) ⋯) ⋯) ⋯ ⋯ ⋯ ⋯) pN ⋯) ⋯) ⋯ ⋯ ⋯ ⋯))))))))),?_⟩
 have B0:=RW.b0
 have X:=qjD RW
 have xl:=prs.length
 have sh:Shs H xs (qsF ts B):=qhS (by rw [<- qek B0]; exact prs)
 have ru:RuAt H r (ts.map fun x=>lowF x B) B:=⟨xs,hr0,prs,qfu RW,qi5 RW,by simp; omega,by simpa using n1⟩
 have hT:=fun a j=>T_eq (ts:=ts) B0 balls a j
 have eL:=qgO (ts:=ts) B0
 have eA:=qjo (ts:=ts) (B:=B) balls
 have fit:=qmZ RW (by omega) b8
 generalize botF (qsF ts B)=L at X hT eL eA
 generalize tpF L (qsF ts B)=c at X hT eA
 have MM:=qj6 X (by omega) b8
 have tz:=fun f=>qmn X balls f
 generalize itF c balls [(List.replicate ts.length 0,1)]=M at MM tz eA
 obtain ⟨W0,W1⟩:=pw8 X.l0 X.l1 b8
 obtain ⟨mnM,ldM⟩:=mn_z MM b8 X.l0 X.l1 n1 (by omega)
 have xn:xs.length=ts.length:=by simpa using xl
 refine ⟨_,rfl,lz 1 rfl,fun z0 hz0=>?_⟩
 have s_A0:=sN hz0 (.tup [.int 0])
 have g_z0:upd H z0 (.tup [.int 0]) z0=some (.tup [.int 0]):=uS
 generalize upd H z0 (.tup [.int 0])=A0 at s_A0 g_z0 ⊢
 refine ⟨_,rfl,r,_,rfl,.inr (SqT.of (s_A0 _ _ hr0)),z0,_,_,rfl,rfl,g_z0,by simp,by omega,by omega,by decide,fun z1 A1 sA1 hz1=>?_⟩
 rw [rep1,show ((xs.length:Nat):Int).toNat=ts.length by omega] at hz1
 refine ⟨z1,_,rfl,hz1,fun l A2 sA2 hl2 spl=>?_⟩
 have sH2:Same H A2:=s_A0.trans (sA1.trans sA2)
 refine ⟨_,rfl,r,l,xs,qsF ts B,_,balls,rfl,sH2 _ _ hr0,sh.same sH2,spl,fit,fun l1 H1 s1 hn1 sp1=>?_⟩
 rw [eA] at sp1
 have sA:Same H H1:=s_A0.trans (sA1.trans (sA2.trans s1))
 obtain ⟨ys,hl1,rws⟩:=id sp1
 have yl:=Paired.length rws
 have few:=mnM.few
 refine ⟨_,rfl,l1,rfl,⟨_,SqL.of hl1⟩,qb0 (qaU (xs:=ys)) (fun p i zs σ' H'=>Same H1 H'/\(∃ o1 o2,σ'=[o1,o2,some (.ref st)])/\Shs H' zs ((((rise (qaf M)).take i).filter fun l=>decide (brkI ls (ls.length - 1) l)).map fun k=>Rat.divInt (getM M k) (L ^ balls))) (by omega) ?_ ?_ ?_ ?_⟩
 ·exact fun p hp=>⟨sN hp _,⟨_,_,rfl⟩,.nil⟩
 ·rintro p i zs σ' H' hp ⟨s',_⟩
  exact s' _ _ hl1
 ·rintro p i zs σ' H' x H'' hp hi hl' ⟨s',⟨o1,o2,rfl⟩,sh'⟩ hp' ⟨rfl,hx⟩ Q1 Q2 h1 h2
  obtain ⟨rr,hri,a1,b1,v2,rfl,ha1,hb1,hv⟩:=qaz rws hx
  unfold sprF at hri
  rw [List.getElem?_map,Option.map_eq_some_iff] at hri
  obtain ⟨kk,hkk,rfl⟩:=hri
  have km:kk∈qaf M:=(qaX _).mem_iff.mp (List.mem_of_getElem? hkk)
  have kl:=(MM.ld kk km).len
  have e:=take_snoc hkk
  refine ⟨a1,_,rfl,s' _ _ ha1,rfl,_,_,rfl,_,_,rfl,rfl,?_⟩
  refine ⟨_,rfl,_,rfl,b1,st,kk,ls,rfl,s' _ _ hb1,(sA.trans s') _ _ hst,by omega,by omega,by omega,fun H5 s5=>?_⟩
  refine ⟨_,rfl,ite2 (fun cc=>?_) (fun cc=>?_)⟩
  ·refine ⟨_,rfl,h1 _ _ _ (s5 _ _ hp') ⟨qao hp (s'.trans s5) _,⟨_,_,rfl⟩,?_⟩⟩
   rw [e,List.filter_append,List.map_append,List.filter_cons_of_pos (p:=fun l=>decide (brkI ls (ls.length - 1) l)) cc]
   exact Shs.snoc (qeB (s5 _ _ hp') (hv.same (s'.trans s5))) (Shs.updL (s5 _ _ hp') (sh'.same s5))
  ·refine h2 _ _ (s5 _ _ hp') ⟨s'.trans s5,⟨_,_,rfl⟩,?_⟩
   rw [e,List.filter_append,List.map_append,List.filter_cons_of_neg (p:=fun l=>decide (brkI ls (ls.length - 1) l)) cc]
   simpa using sh'.same s5
 ·rintro p zs σ' H2 hp ⟨s2,_,sh'⟩ hp' hl'
  have kl:(rise (qaf M)).length=M.length:=by rw [(qaX _).length_eq]; simp [qaf]
  have ylr:ys.length=(rise (qaf M)).length:=by rw [yl]; unfold sprF; simp
  rw [ylr,List.take_length] at sh'
  have es:=qmh MM.nd ls (ls.length - 1)
  rw [tz] at es
  have rg:=qjf X.nd X.len ls (ls.length - 1) balls
  rw [X.sum] at rg
  have b2:∀ x:Int,0≤x->x≤2560000000000000000000000000->Bt 2000 x:=fun x h0 h1=>(qfU h0 h1).mono (by decide)
  have sb:∀ x:Int,0≤x->x≤2560000000000000000000000000->SB 3000 (Rat.divInt x (L ^ balls)):=fun x h0 h1=>(SB.divInt (b2 x h0 h1) (b2 _ (by omega) (by omega)) W0).mono (by decide)
  have mf:=MM.few
  refine ⟨p,zs,((rise (qaf M)).filter fun l=>decide (brkI ls (ls.length - 1) l)).map (getM M),L ^ balls,rfl,hp',by rw [List.map_map]; exact sh',W0,b2 _ (by omega) (by omega),fun x hx=>?_,by rw [es]; exact b2 _ rg.1 (by omega),?_,fun v3 H3 s3 hv3=>?_⟩
  ·obtain ⟨y,hy,rfl⟩:=List.mem_map.mp hx
   exact Int.le_of_lt (MM.pos y ((qaX _).mem_iff.mp (List.mem_filter.mp hy).1))
  ·rw [List.length_map]
   have:=List.length_filter_le (fun l=>decide (brkI ls (ls.length - 1) l)) (rise (qaf M))
   omega
  rw [es] at hv3
  have s03:=sA.trans (s2.trans s3)
  have lenq:(ts.map fun x=>lowF x B).length=ts.length:=by simp
  have lbq:∀ x∈ls,0≤x/\x≤((ts.map fun x=>lowF x B).length:Nat):=fun x hx=>by rw [lenq]; exact lb x hx
  have nnL:∀ i,0≤ls.getD i 0:=fun i=>by
   rw [List.getD_eq_getElem?_getD]
   cases e:ls[i]? with
   | none=>simp
   | some y=>exact (lb y (List.mem_of_getElem? e)).1
  have rl:=qfu RW
  have ch:=qi5 RW
  have bsum:∀ (ls':List Int) (m:Nat),m≤10->0≤((List.range m).map fun i=>sF (ts.map fun x=>lowF x B) balls ls' i).sum/\((List.range m).map fun i=>sF (ts.map fun x=>lowF x B) balls ls' i).sum≤2560000000000000000000000000:=fun ls' m hm=>by
   have:=qcX rl ch balls ls' m
   rw [eL] at this
   refine ⟨this.1,Int.le_trans this.2 ?_⟩
   have:=Int.mul_le_mul (show (m:Int)≤10 by omega) W1 (by omega) (by decide)
   exact this
  refine ⟨_,rfl,_,rfl,_,rfl,_,rfl,r,st,_,B,balls,ls,rfl,ru.same s03,by omega,s03 _ _ hst,l2,l7,lbq,fun v4 H4 s4 hv4=>?_⟩
  unfold bF at hv4
  rw [eL,qdu W0] at hv4
  have bb1:=qdp X.nd X.nn X.len (Int.le_of_eq X.sum) hT l0 nnL (ls.length - 1)
  have bs1:=bsum ls (ls.length - 1) (by omega)
  have le1:Rat.divInt (popN c balls (brkF ls (ls.length - 1)) (List.replicate ts.length 0)) (L ^ balls)≤Rat.divInt ((List.range (ls.length - 1)).map fun i=>sF (ts.map fun x=>lowF x B) balls ls i).sum (L ^ balls):=by
   refine qcm W0 ?_
   unfold sF
   rw [lenq]
   exact bb1
  refine ⟨_,_,_,_,rfl,hv3.same s4,hv4,sb _ rg.1 (by omega),sb _ bs1.1 bs1.2,true,by rw [decide_eq_true le1],iteF ?_⟩
  have s04:=s03.trans s4
  refine ⟨_,rfl,st,_,rfl,.inr (SqT.of (s04 _ _ hst)),6,_,rfl,?_⟩
  obtain ⟨m,em,m2,m6,ml⟩:∃ m:Nat,(if (((iv ls).length:Nat):Int) < 6 then (((iv ls).length:Nat):Int) else 6)=(m:Int)/\2≤m/\m≤6/\m≤ls.length:=by
   have:(iv ls).length=ls.length:=by simp
   by_cases z:(((iv ls).length:Nat):Int) < 6
   ·exact ⟨ls.length,by rw [if_pos z,this],by omega,by omega,by omega⟩
   ·exact ⟨6,by rw [if_neg z]; rfl,by omega,by omega,by omega⟩
  refine gN_eq (congrArg V.int em) ?_
  refine ⟨_,rfl,_,rfl,_,rfl,r,_,B,balls,m,rfl,ru.same s04,by omega,by omega,by omega,fun t a v5 ls5 tp H5 s5 ht ha5 hen wt hv5=>?_⟩
  refine ⟨t,_,_,_,rfl,rfl,SqT.of ht,rfl,?_⟩
  have s05:=s04.trans s5
  rw [eL,qdu W0] at hv5
  have esum:∀ ls':List Int,((List.range m).map fun i=>sF (ts.map fun x=>lowF x B) balls ls' i).sum=((List.range m).map fun i:Nat=>pF ts.length balls (tF (lcmF (ts.map fun x=>lowF x B)) (ts.map fun x=>lowF x B) balls) ((i:Int) + 1) (ls'.getD i 0) (ls'.getD (i + 1) 0)).sum:=fun ls'=>by unfold sF; rw [lenq]
  rw [lenq] at wt hen
  have tps:tp=((List.range m).map fun i=>sF (ts.map fun x=>lowF x B) balls ls5 i).sum:=by rw [esum]; exact wt.sum
  have tpr:=bsum ls5 m (by omega)
  rw [<- tps] at tpr
  refine ⟨_,rfl,_,rfl,(m:Int),l1,_,rfl,sp1.same (s2.trans (s3.trans (s4.trans s5))),mnM,ldM,fun v6 H6 s6 hv6=>?_⟩
  rw [qit MM.nd W0,tz] at hv6
  have fr:=qdS X.nd X.len (m:Int) balls
  rw [X.sum] at fr
  have nn5:∀ i,0≤ls5.getD i 0:=fun i=>by
   rw [List.getD_eq_getElem?_getD]
   cases e:ls5[i]? with
   | none=>simp
   | some y=>exact (wt.bnd y (List.mem_of_getElem? e)).1
  have le2:Rat.divInt (popN c balls (qa7 (m:Int) 1) (List.replicate ts.length 0)) (L ^ balls)≤Rat.divInt tp (L ^ balls):=by
   refine qcm W0 (Int.le_trans (qgF X.nd X.len (by omega) wt.lst balls) ?_)
   have:=qdp X.nd X.nn X.len (Int.le_of_eq X.sum) hT wt.fst nn5 m
   rw [wt.sum]
   exact this
  refine ⟨_,rfl,_,_,_,_,rfl,hv6,hv5.same s6,sb _ fr.1 (by omega),sb _ tpr.1 tpr.2,true,by rw [decide_eq_true le2],iteF ?_⟩
  have s06:=s05.trans s6
  have gt:∀ i,i < m->(ls.take m ++ [0]).getD i 0=ls.getD i 0:=fun i hi=>by
   rw [gdL (by simp; omega),List.getD_eq_getElem?_getD,List.getD_eq_getElem?_getD,List.getElem?_take,if_pos hi]
  have gm:(ls.take m ++ [0]).getD m 0=0:=by rw [gdR (by simp; omega)]; simp [Nat.min_eq_left ml]
  have l2l:(ls.take m ++ [(0:Int)]).length=m + 1:=by simp; omega
  have b2':∀ x∈ls.take m ++ [(0:Int)],0≤x/\x≤ts.length:=fun x hx=>by
   rcases List.mem_append.mp hx with z | z
   ·exact lb x (List.mem_of_mem_take z)
   ·rw [List.mem_singleton.mp z]; omega
  have wt2:Wt ts.length balls (tF (lcmF (ts.map fun x=>lowF x B)) (ts.map fun x=>lowF x B) balls) m 0 (((List.range m).map fun i:Nat=>pF ts.length balls (tF (lcmF (ts.map fun x=>lowF x B)) (ts.map fun x=>lowF x B) balls) ((i:Int) + 1) ((ls.take m ++ [0]).getD i 0) ((ls.take m ++ [0]).getD (i + 1) 0)).sum) (ls.take m ++ [0]):=by
   refine ⟨l2l,by rw [gt 0 (by omega)]; exact l0,gm,fun i hi=>?_,b2',rfl⟩
   rw [l2l] at hi
   by_cases z:i + 1 < m
   ·rw [gt i (by omega),gt (i + 1) z]; exact lf i (by omega)
   ·rw [show i + 1=m by omega,gm,gt i (by omega)]; exact nnL i
  refine ⟨_,rfl,_,rfl,_,rfl,_,rfl,_,rfl,_,rfl,st,_,rfl,s06 _ _ hst,fun c3 H7 s7 hc3=>?_⟩
  rw [qk6 ml] at hc3
  refine ⟨lz 1 rfl,fun t8 ht8=>?_⟩
  have s8:=sN ht8 (.tup [.int 0])
  refine ⟨c3,t8,_,_,rfl,rfl,s8 _ _ hc3,uS,by simp; omega,fun c4 H9 s9 hc4=>?_⟩
  have e4:iv (ls.take m) ++ [.int 0]=iv (ls.take m ++ [0]):=by simp
  rw [e4] at hc4
  refine ⟨_,rfl,_,_,rfl,rfl,_,rfl,c4,_,rfl,hc4,fun c5 H10 s10 hc5=>?_⟩
  have e5:cutV (iv (ls.take m ++ [0])) none (some ((m:Int) + 1))=iv (ls.take m ++ [0]):=by
   have:=qk6 (ns:=ls.take m ++ [0]) (k:=m + 1) (by omega)
   rw [show (((m + 1:Nat)):Int)=(m:Int) + 1 by omega] at this
   rw [this,List.take_of_length_le (by omega)]
  have s6A:=s7.trans (s8.trans (s9.trans s10))
  change H10 c5=some (.tup (cutV (iv (ls.take m ++ [0])) none (some ((m:Int) + 1)))) at hc5
  rw [e5] at hc5
  refine ⟨r,c5,_,B,balls,ls.take m ++ [0],rfl,ru.same (s06.trans s6A),by omega,hc5,by omega,by omega,fun x hx=>by rw [lenq]; exact b2' x hx,fun v7 H11 s11 hv7=>?_⟩
  unfold bF at hv7
  rw [eL,qdu W0,l2l,Nat.add_sub_cancel] at hv7
  have r7:=bsum (ls.take m ++ [0]) m (by omega)
  have le3:Rat.divInt tp (L ^ balls)≤Rat.divInt ((List.range m).map fun i=>sF (ts.map fun x=>lowF x B) balls (ls.take m ++ [0]) i).sum (L ^ balls):=by
   refine qcm W0 ?_
   rw [esum]
   exact qe4 m 0 tp _ _ hen wt2
  have kk:=k H11 (s06.trans (s6A.trans s11))
  rw [<- decide_eq_true le3] at kk
  exact ⟨_,_,_,_,rfl,hv5.same (s6.trans (s6A.trans s11)),hv7,sb _ tpr.1 tpr.2,sb _ r7.1 r7.2,kk⟩
end
theorem PrAt.keepY {H H':Hp}{p:Addr}{n:Nat}{v:V}{q:Int × Int}(hp:PenY H p n)(x:qbh p H H')(h:PrAt H v q):PrAt H' v q:=let ⟨a,e,h⟩:=h; ⟨a,e,hp.keepT x h⟩
theorem Prs.keepY {H H':Hp}{p:Addr}{n:Nat}(hp:PenY H p n)(x:qbh p H H'):∀ {xs:List V} {ps:List (Int × Int)},Prs H xs ps->Prs H' xs ps
 | _,_,.nil => .nil
 | _,_,.cons h t => .cons (PrAt.keepY hp x h) (Prs.keepY hp x t)
theorem qh2 {H:Hp}{v:V}{q:Int × Int}(h:PrAt H v q):qds H v (dp q):=by
 obtain ⟨a,rfl,h⟩:=h
 exact .tup h (.cons (.int _) (.cons (.int _) .nil))
theorem qkj {x W:Int}(x0:0≤x)(hx:x≤2560000000000000000000000000)(W0:0 < W)(hW:W≤2560000000000000000000000000):Good (dp (prq (Rat.divInt x W))):=by
 rw [<- qdu W0]
 have g:=qay (a:=x) (b:=W) (by omega)
 have h1:x / gI x W≤x:=Int.ediv_le_self _ x0
 have h2:0≤x / gI x W:=Int.ediv_nonneg x0 (by omega)
 have h3:W / gI x W≤W:=Int.ediv_le_self _ (by omega)
 have h4:0≤W / gI x W:=Int.ediv_nonneg (by omega) (by omega)
 have e:(2560000000000000000000000000:Nat) < 10 ^ 150:=by decide +kernel
 exact qkk (Nat.lt_of_le_of_lt (m:=2560000000000000000000000000) (by show (x / gI x W).natAbs≤_; omega) e) (Nat.lt_of_le_of_lt (m:=2560000000000000000000000000) (by show (W / gI x W).natAbs≤_; omega) e)
section
variable {P:Program}{w:World}{K:PySem.W.Frag}{mg:Str->Option Value}{base:Heap}
theorem qmJ (T:Txt2 mg)(C_l_pen:Cal P w K mg base "_law_pen" ["_law_script"] 1 (qkK K))(C_l_draw:Cal P w K mg base "_law_draw" ["_law_pen_here", "_law_many"] 1 qd9)(C_l_rule:Cal P w K mg base "_law_rule" ["_law_pen_here", "_law_n"] 3 qkJ)(C_l_layers:Cal P w K mg base "_law_layers" ["_law_pen_here", "_law_n"] 2 qf5)(C_l_right:Cal P w K mg base "_law_right" ["_law_rule_here", "_law_balls", "_law_some"] 6 qf3)
  (C_l_rows:Cal P w K mg base "_law_rows" ["_law_rule_here", "_law_balls", "_law_m"] 4 qhL) (C_after:Cal P w K mg base "after" ["rule", "spread", "many"] 4 qfq) (C_alone:Cal P w K mg base "alone" ["load"] 1 qfp) (C_least_layers:Cal P w K mg base "least_layers" ["rule", "balls", "m"] 4 qd8) (C_fullest_share:Cal P w K mg base "fullest_share" ["spread", "m"] 5 qfo) (C_l_is_no_more:Cal P w K mg base "_law_is_no_more" ["_law_one", "_law_other"] 1 qd7)
  {fa:Addr} {fd:FuncData} (F:Fun K "law" "law" qeb fa fd):FnOk P w K mg base CX0 7 fa fd ["_law_script"] (qjB K):=by
 have S:=qkO
 refine F.ok qkO (fun vs H Q E h=>?_) (fun cdv A outer s H vs Q E hr h=>?_)
 ·obtain ⟨a,ns,rfl,_⟩:=h; rfl
 obtain ⟨a,ns,rfl,ha,hn,k⟩:=h
 refine ⟨_,(@pK _ _ _ _ _ (@pZ _ _ (1) _ _ _ _ (by exact S.nd) ⋯ ⋯ (@cc _ _ _ _ _ _ _ _ _ _ (by exact C_l_pen) (by exact (hr.mono (by decide))) (@pC _ _ _ _ _ (pv 0) pN ⋯) ⋯ ⋯ ⋯ ⋯) ⋯ ⋯) (@pK _ _ _ _ _ (@qbj _ _ _ _ _ _ _ _ (by exact PassesOwn.never) ⋯ (@qaA _ _ _ _ _ _ ⋯ (by exact T.z_range) (@pC _ _ _ _ _ pI pN ⋯) ⋯) (@pG _ _ (2) _ (by exact S.nd) ⋯ ⋯ ⋯) (@pK _ _ _ _ _ (@pZ _ _ (3) _ _ _ _ (by exact S.nd) ⋯ ⋯ (@cc _ _ _ _ _ _ _ _ _ _ (by exact C_l_rule) (by exact (hr.mono (by decide))) (@pC _ _ _ _ _ (pv 1) (@pC _ _ _ _ _ (@pP _ _ _ _ _ _ _ _ qaF pI (@cc _ _ _ _ _ _ _ _ _ _ (by exact C_l_draw) (by exact (hr.mono (by decide))) (@pC _ _ _ _ _ (pv 1) (@pC _ _ _ _ _ pI pN ⋯) ⋯) ⋯ ⋯ ⋯ ⋯)) pN ⋯) ⋯) ⋯ ⋯ ⋯ ⋯) ⋯ ⋯) (@pO _ _ _ (@qcr _ _ _ _ _ _ _ _ (@qh0 _ _ _ _ (@qgg _ _ _ (@cc _ _ _ _ _ _ _ _ _ _ (by exact C_l_right) (by exact (hr.mono (by decide))) (@pC _ _ _ _ _ (pv 3) (@pC _ _ _ _ _ (@cc _ _ _ _ _ _ _ _ _ _ (by exact C_l_draw) (by exact (hr.mono (by decide))) (@pC _ _ _ _ _ (pv 1) (@pC _ _ _ _ _ pI pN ⋯) ⋯) ⋯ ⋯ ⋯ ⋯) (@pC _ _ _ _ _ (@cc _ _ _ _ _ _ _ _ _ _ (by exact C_l_layers) (by exact (hr.mono (by decide))) (@pC _ _ _ _ _ (pv 1) (@pC _ _ _ _ _ (@qag _ _ _ _ _ _ _ _ _ qai ⋯ (by exact T.z_len) (by exact qa4) (@pC _ _ _ _ _ (pv 3) pN ⋯) ⋯ ⋯ ⋯ ⋯) pN ⋯) ⋯) ⋯ ⋯ ⋯ ⋯) pN ⋯) ⋯) ⋯) ⋯ ⋯ ⋯ ⋯) ⋯)) (@pO _ _ _ (@qan _ _ _ _ qh8)) qa8))) ⋯) (@pK _ _ _ _ _ (@pZ _ _ (3) _ _ _ _ (by exact S.nd) ⋯ ⋯ (@cc _ _ _ _ _ _ _ _ _ _ (by exact C_l_rule) (by exact (hr.mono (by decide))) (@pC _ _ _ _ _ (pv 1) (@pC _ _ _ _ _ (@pP _ _ _ _ _ _ _ _ qaF pI (@cc _ _ _ _ _ _ _ _ _ _ (by exact C_l_draw) (by exact (hr.mono (by decide))) (@pC _ _ _ _ _ (pv 1) (@pC _ _ _ _ _ pI pN ⋯) ⋯) ⋯ ⋯ ⋯ ⋯)) pN ⋯) ⋯) ⋯ ⋯ ⋯ ⋯) ⋯ ⋯) (@pK _ _ _ _ _ (@pZ _ _ (4) _ _ _ _ (by exact S.nd) ⋯ ⋯ (@cc _ _ _ _ _ _ _ _ _ _ (by exact C_l_draw) (by exact (hr.mono (by decide))) (@pC _ _ _ _ _ (pv 1) (@pC _ _ _ _ _ pI pN ⋯) ⋯) ⋯ ⋯ ⋯ ⋯) ⋯ ⋯) (@pK _ _ _ _ _ (@pZ _ _ (5) _ _ _ _ (by exact S.nd) ⋯ ⋯ (@cc _ _ _ _ _ _ _ _ _ _ (by exact C_l_draw) (by exact (hr.mono (by decide))) (@pC _ _ _ _ _ (pv 1) (@pC _ _ _ _ _ pI pN ⋯) ⋯) ⋯ ⋯ ⋯ ⋯) ⋯ ⋯) (@pK _ _ _ _ _ (@pZ _ _ (6) _ _ _ _ (by exact S.nd) ⋯ ⋯ (@cc _ _ _ _ _ _ _ _ _ _ (by exact C_l_rows) (by exact (hr.mono (by decide))) (@pC _ _ _ _ _ (pv 3) (@pC _ _ _ _ _ (pv 4) (@pC _ _ _ _ _ (pv 5) pN ⋯) ⋯) ⋯) ⋯ ⋯ ⋯ ⋯) ⋯ ⋯) (@pK _ _ _ _ _ (@pZ _ _ (7) _ _ _ _ (by exact S.nd) ⋯ ⋯ (@cc _ _ _ _ _ _ _ _ _ _ (by exact C_fullest_share) (by exact (hr.mono (by decide))) (@pC _ _ _ _ _ (@cc _ _ _ _ _ _ _ _ _ _ (by exact C_after) (by exact (hr.mono (by decide))) (@pC _ _ _ _ _ (pv 3) (@pC _ _ _ _ _ (@cc _ _ _ _ _ _ _ _ _ _ (by exact C_alone) (by exact (hr.mono (by decide))) (@pC _ _ _ _ _ (@pP _ _ _ _ _ _ _ _ qfA (@qaN _ _ _ _ _ (@pC _ _ _ _ _ pI pN ⋯)) (@qag _ _ _ _ _ _ _ _ _ qai ⋯ (by exact T.z_len) (by exact qa4) (@pC _ _ _ _ _ (pv 3) pN ⋯) ⋯ ⋯ ⋯ ⋯)) pN ⋯) ⋯ ⋯ ⋯ ⋯) (@pC _ _ _ _ _ (pv 4) pN ⋯) ⋯) ⋯) ⋯ ⋯ ⋯ ⋯) (@pC _ _ _ _ _ (pv 5) pN ⋯) ⋯) ⋯ ⋯ ⋯ ⋯) ⋯ ⋯) (@pO _ _ _ (@qan _ _ _ _ (@qmF _ _ _ _ _ _ _ (@qct _ _ _ _ _ _ _ _ qfC (@qag _ _ _ _ _ _ _ _ _ (qe7 hr) ⋯ (by exact T.z_repr) (by exact qjc) (@pC _ _ _ _ _ (pv 7) pN ⋯) ⋯ ⋯ ⋯ ⋯) (@qag _ _ _ _ _ _ _ _ _ (qe7 hr) ⋯ (by exact T.z_repr) (by exact qjc) (@pC _ _ _ _ _ (pv 6) pN ⋯) ⋯ ⋯ ⋯ ⋯) (by exact (qaO _))) (@qkR _ _ _ _ _ (@pe_or _ _ _ _ _ _ _ (@qct _ _ _ _ _ _ _ _ qfC (pv 5) pI (by exact (qaO _))) (@qkR _ _ _ _ _ (@cc _ _ _ _ _ _ _ _ _ _ (by exact C_l_is_no_more) (by exact (hr.mono (by decide))) (@pC _ _ _ _ _ (pv 6) (@pC _ _ _ _ _ (@qax _ _ _ _ _ _ _ qbg (@cc _ _ _ _ _ _ _ _ _ _ (by exact C_least_layers) (by exact (hr.mono (by decide))) (@pC _ _ _ _ _ (pv 3) (@pC _ _ _ _ _ (pv 4) (@pC _ _ _ _ _ (pv 5) pN ⋯) ⋯) ⋯) ⋯ ⋯ ⋯ ⋯) pI (by exact (fun _ _=>rfl))) pN ⋯) ⋯) ⋯ ⋯ ⋯ ⋯)))))))))))))),?_⟩
 refine ⟨_,rfl,a,ns,rfl,ha,fun p H1 s1 p1=>?_⟩
 refine ⟨2,rfl,by decide,by decide,qfQ (qbp (lo:=0)) (fun i σ H'=>∃ o2 o3 o4 o5 o6 o7,σ=[some (.ref a),some (.ref p),o2,o3,o4,o5,o6,o7]/\PenY H' p (100 * i)) ⟨_,_,_,_,_,_,rfl,p1⟩ (fun _ _ _ _=>trivial) ?_ ?_⟩
 ·rintro i x σ X2 H2 hi ⟨o2,o3,o4,o5,o6,o7,rfl,p2⟩ ⟨rfl,rfl⟩
  have hi':i < 2:=hi
  refine gN_ ?_
  refine ⟨_,rfl,_,rfl,p,_,_,rfl,p2,by omega,by decide,by decide,fun d H3 d0 d1 p3 x3=>?_⟩
  refine ⟨_,_,rfl,rfl,p,_,_,rfl,p3,by omega,by omega,by omega,fun rt xs ts B H4 hrt prs tl RW p4 x4=>?_⟩
  refine ⟨_,rfl,_,rfl,p,_,_,rfl,p4,by omega,by decide,by decide,fun b H5 b0 b1 p5 x5=>?_⟩
  have hrt5:=p4.keepT x5 hrt
  have prs5:=Prs.keepY p4 x5 prs
  have xl:=prs.length
  rw [List.length_map] at xl
  refine ⟨_,rfl,_,rfl,rt,_,rfl,.inr (SqT.of hrt5),p,_,_,rfl,p5,by omega,by omega,by omega,fun st ls H6 hst l2 l7 lb lf l0 p6 x6=>?_⟩
  obtain ⟨bn,rfl⟩:∃ bn:Nat,b=bn:=⟨b.toNat,by omega⟩
  have tl':ts.length≤4/\1≤ts.length:=by omega
  refine ⟨rt,st,xs,ts,B,bn,ls,rfl,p5.keepT x6 hrt5,Prs.keepY p5 x6 prs5,RW,by omega,by omega,by omega,hst,l2,l7,fun x hx=>by have:=lb x hx; omega,lf,by rw [l0]; omega,fun H7 s7=>?_⟩
  exact ⟨_,rfl,iteF ⟨_,_,_,_,_,_,rfl,(p6.same s7).mono (by omega)⟩⟩
 ·rintro σ H2 ⟨o2,o3,o4,o5,o6,o7,rfl,p2⟩
  refine ⟨_,rfl,_,rfl,p,_,_,rfl,p2,by omega,by decide,by decide,fun d H3 d0 d1 p3 x3=>?_⟩
  refine ⟨_,_,rfl,rfl,p,_,_,rfl,p3,by omega,by omega,by omega,fun rt xs ts B H4 hrt prs tl RW p4 x4=>?_⟩
  refine ⟨_,rfl,p,_,_,rfl,p4,by omega,by decide,by decide,fun b H5 b0 b1 p5 x5=>?_⟩
  refine ⟨_,rfl,p,_,_,rfl,p5,by omega,by decide,by decide,fun m H6 m0 m1 p6 x6=>?_⟩
  have hrt6:=p5.keepT x6 (p4.keepT x5 hrt)
  have prs6:=Prs.keepY p5 x6 (Prs.keepY p4 x5 prs)
  obtain ⟨balls,rfl⟩:∃ bn:Nat,b=bn:=⟨b.toNat,by omega⟩
  obtain ⟨m,rfl⟩:∃ bn:Nat,m=bn:=⟨m.toNat,by omega⟩
  have B0:=RW.b0
  have sh:Shs H6 xs (qsF ts B):=qhS (by rw [<- qek B0]; exact prs6)
  have xl:=prs.length
  rw [List.length_map] at xl
  have tn:1≤ts.length/\ts.length≤3:=by omega
  refine ⟨_,rfl,_,rfl,_,rfl,rt,xs,ts,B,balls,m,rfl,hrt6,sh,RW,tn.1,tn.2,by omega,fun du H7 s7 hdu=>?_⟩
  have ru:RuAt H6 rt (ts.map fun x=>lowF x B) B:=⟨xs,hrt6,prs6,qfu RW,qi5 RW,by simp; omega,by simp; omega⟩
  have X:=qjD RW
  have hT:=fun a j=>T_eq (ts:=ts) B0 balls a j
  have eL:=qgO (ts:=ts) B0
  have eA:=qjo (ts:=ts) (B:=B) balls
  have fit:=qmZ RW (by omega) (show balls≤8 by omega)
  generalize botF (qsF ts B)=L at X hT eL eA hdu
  generalize tpF L (qsF ts B)=c at X hT eA hdu
  have MM:=qj6 X (by omega) (show balls≤8 by omega)
  have tz:=fun f=>qmn X balls f
  generalize itF c balls [(List.replicate ts.length 0,1)]=M at MM tz eA
  obtain ⟨W0,W1⟩:=pw8 X.l0 X.l1 (show balls≤8 by omega)
  obtain ⟨mnM,ldM⟩:=mn_z MM (by omega) X.l0 X.l1 tn.1 (by omega)
  have fr:=qdS X.nd X.len (m:Int) balls
  rw [X.sum] at fr
  refine ⟨_,rfl,lz 1 rfl,fun z0 hz0=>?_⟩
  have s_A0:=sN hz0 (.tup [.int 0])
  have g_z0:upd H7 z0 (.tup [.int 0]) z0=some (.tup [.int 0]):=uS
  generalize upd H7 z0 (.tup [.int 0])=A0 at s_A0 g_z0 ⊢
  refine ⟨_,rfl,rt,_,rfl,.inr (SqT.of (s_A0 _ _ (s7 _ _ hrt6))),z0,_,_,rfl,rfl,g_z0,by simp,by omega,by omega,by decide,fun z1 A1 sA1 hz1=>?_⟩
  rw [rep1,show ((xs.length:Nat):Int).toNat=ts.length by omega] at hz1
  refine ⟨z1,_,rfl,hz1,fun l A2 sA2 hl2 spl=>?_⟩
  have s72:Same H7 A2:=s_A0.trans (sA1.trans sA2)
  refine ⟨_,rfl,rt,l,xs,qsF ts B,_,balls,rfl,(s7.trans s72) _ _ hrt6,sh.same (s7.trans s72),spl,fit,fun l1 H8 s8 hn1 sp1=>?_⟩
  rw [eA] at sp1
  refine ⟨_,rfl,(m:Int),l1,_,rfl,sp1,mnM,ldM,fun to H9 s9 hto=>?_⟩
  rw [qit MM.nd W0,tz] at hto
  have s79:=s72.trans (s8.trans s9)
  have hdu9:=hdu.same s79
  have gd:=qkj fr.1 (by omega) W0 (by omega)
  refine ⟨_,rfl,_,_,rfl,qh2 hto,gd.sh,gd.ld,gd.dp,gd.ln,?_⟩
  refine ⟨_,rfl,_,_,rfl,qh2 (q:=prq (Rat.divInt (popN c balls (qa7 (m:Int) 1) (List.replicate ts.length 0)) (L ^ balls))) hdu9,gd.sh,gd.ld,gd.dp,gd.ln,?_⟩
  obtain ⟨tx,etx⟩:∃ tx,(dp (prq (Rat.divInt (popN c balls (qa7 (m:Int) 1) (List.replicate ts.length 0)) (L ^ balls)))).shown=tx:=⟨_,rfl⟩
  rw [etx]
  refine ⟨rfl,_,rfl,?_⟩
  rw [if_pos (by simp)]
  refine ⟨_,rfl,rfl,_,rfl,?_⟩
  refine ite2 (fun z=>k _) (fun z=>?_)
  have mz:1≤m:=by
   rcases Nat.eq_zero_or_pos m with q | q
   ·subst q; exact absurd (by simp) z
   ·exact q
  refine ⟨_,rfl,_,rfl,_,rfl,_,rfl,rt,_,B,balls,m,rfl,ru.same (s7.trans s79),by omega,mz,by omega,fun t a5 v5 ls5 tp H10 s10 ht ha5 hen wt hv5=>?_⟩
  refine ⟨t,_,_,_,rfl,rfl,SqT.of ht,rfl,?_⟩
  have lenq:(ts.map fun x=>lowF x B).length=ts.length:=by simp
  rw [eL,qdu W0] at hv5
  rw [lenq] at wt
  have nn5:∀ i,0≤ls5.getD i 0:=fun i=>by
   rw [List.getD_eq_getElem?_getD]
   cases e:ls5[i]? with
   | none=>simp
   | some y=>exact (wt.bnd y (List.mem_of_getElem? e)).1
  have le2:Rat.divInt (popN c balls (qa7 (m:Int) 1) (List.replicate ts.length 0)) (L ^ balls)≤Rat.divInt tp (L ^ balls):=by
   refine qcm W0 (Int.le_trans (qgF X.nd X.len mz wt.lst balls) ?_)
   have:=qdp X.nd X.nn X.len (Int.le_of_eq X.sum) hT wt.fst nn5 m
   rw [wt.sum]
   exact this
  have tpr:0≤tp/\tp≤2560000000000000000000000000:=by
   have:=qcX (qfu RW) (qi5 RW) balls ls5 m
   unfold sF at this
   rw [lenq,<- wt.sum,eL] at this
   refine ⟨this.1,Int.le_trans this.2 ?_⟩
   exact Int.mul_le_mul (show (m:Int)≤10 by omega) W1 (by omega) (by decide)
  have sb:∀ x:Int,0≤x->x≤2560000000000000000000000000->SB 3000 (Rat.divInt x (L ^ balls)):=fun x h0 h1=>(SB.divInt (qfU h0 h1) (qfU (by omega) (by omega)) W0).mono (by decide)
  have kk:=k H10
  rw [<- decide_eq_true le2] at kk
  exact ⟨_,_,_,_,rfl,hdu9.same s10,hv5,sb _ fr.1 (by omega),sb _ tpr.1 tpr.2,kk⟩
end
end My
namespace My
open PySem L2 MA
theorem ar1 {C:List Value->Prop}(h:∀ a0,C [a0]):∀ us:List Value,us.length=1->C us
 | [a0],_=>h a0
theorem ar2 {C:List Value->Prop}(h:∀ a0 a1,C [a0,a1]):∀ us:List Value,us.length=2->C us
 | [a0,a1],_=>h a0 a1
theorem ar3 {C:List Value->Prop}(h:∀ a0 a1 a2,C [a0,a1,a2]):∀ us:List Value,us.length=3->C us
 | [a0,a1,a2],_=>h a0 a1 a2
theorem ar4 {C:List Value->Prop}(h:∀ a0 a1 a2 a3,C [a0,a1,a2,a3]):∀ us:List Value,us.length=4->C us
 | [a0,a1,a2,a3],_=>h a0 a1 a2 a3
structure Funs (K:PySem.W.Frag)(mg:Str->Option Value):Prop where
 f_measure:FunAt K mg "measure" ["a", "b"] s_measure
 f_parted:FunAt K mg "parted" ["top", "bottoms"] s_parted
 f_weighed:FunAt K mg "weighed" ["some"] s_weighed
 f_tail_tops:FunAt K mg "tail_tops" ["tries", "top", "bottom"] s_tail_tops
 f_tails_of:FunAt K mg "tails_of" ["rule", "balls"] s_tails_of
 f_part_top:FunAt K mg "part_top" ["tails", "k", "ahead", "b"] s_part_top
 f_bound:FunAt K mg "bound" ["rule", "balls", "layers"] s_bound
 f_least_layers:FunAt K mg "least_layers" ["rule", "balls", "m"] s_least_layers
 f_mean_of:FunAt K mg "mean_of" ["spread", "numbers"] s_mean_of
 f_fullest_share:FunAt K mg "fullest_share" ["spread", "m"] s_fullest_share
 f_many_share:FunAt K mg "many_share" ["spread", "m", "b"] s_many_share
 f_boxes_with:FunAt K mg "boxes_with" ["load", "m"] s_boxes_with
 f_falling:FunAt K mg "falling" ["numbers"] s_falling
 f_put_at:FunAt K mg "put_at" ["load", "rank"] s_put_at
 f_alone:FunAt K mg "alone" ["load"] s_alone
 f_gathered:FunAt K mg "gathered" ["rows"] s_gathered
 f_weights_of:FunAt K mg "weights_of" ["spread"] s_weights_of
 f_spread_of:FunAt K mg "spread_of" ["weights", "bottoms"] s_spread_of
 f_come:FunAt K mg "come" ["chances", "weights"] s_come
 f_ask_boxes:FunAt K mg "ask_boxes" ["ranks", "load"] s_ask_boxes
 f_after:FunAt K mg "after" ["rule", "spread", "many"] s_after
 f_l_pen:FunAt K mg "_law_pen" ["_law_script"] s_l_pen
 f_l_draw:FunAt K mg "_law_draw" ["_law_pen_here", "_law_many"] s_l_draw
 f_l_measure:FunAt K mg "_law_measure" ["_law_a", "_law_b"] s_l_measure
 f_l_lowest:FunAt K mg "_law_lowest" ["_law_top", "_law_bottom"] s_l_lowest
 f_l_rule:FunAt K mg "_law_rule" ["_law_pen_here", "_law_n"] s_l_rule
 f_l_power:FunAt K mg "_law_power" ["_law_number", "_law_many"] s_l_power
 f_l_layers:FunAt K mg "_law_layers" ["_law_pen_here", "_law_n"] s_l_layers
 f_l_is_no_more:FunAt K mg "_law_is_no_more" ["_law_one", "_law_other"] s_l_is_no_more
 f_l_broken:FunAt K mg "_law_broken" ["_law_load", "_law_some"] s_l_broken
 f_l_sum:FunAt K mg "_law_sum" ["_law_parts_here"] s_l_sum
 f_l_rows:FunAt K mg "_law_rows" ["_law_rule_here", "_law_balls", "_law_m"] s_l_rows
 f_l_right:FunAt K mg "_law_right" ["_law_rule_here", "_law_balls", "_law_some"] s_l_right
theorem all_mk {l:PySem.W.OpenLaw}{w:World}{K:PySem.W.Frag}{h:Heap}{mg:Str->Option Value}{fa f3:Addr}(X:K.In h)(G:h.Ns mainGlobals mg)(hfa:mg "law" = some (.ref fa))
  {od3 an3:Option Addr} {sl3:Array (Option Value)} {oc3 kV3 dc3 pm3 cd3 ct3:Value} (T:Txt2 mg) (FA:Funs K mg) {tk_MOST_LOADS:Tok} (h_MOST_LOADS:mg "MOST_LOADS" = some (.int 60 tk_MOST_LOADS))
  (a3:PySem.W.nsIn K mainGlobals "law" = some (some (.ref f3))) (l3:K.lookup f3=some ⟨oc3,od3,.func (PySem.W.fnOf "law" "law" (qbP qeb) (qbo qeb) (qad qeb) .none kV3 dc3 pm3 an3 cd3 ct3),sl3⟩) (c3:PySem.W.codeIn K cd3 "law" = true) (k3:PySem.W.keepIn K (.ref f3)=true) :
  ∃ fd:FuncData,(∀ (s:Shared) (v:Value),BindsTo s fd ⟨[v],[]⟩ [("_law_script",v)])/\∀ base:Heap,K.In base->base.Ns mainGlobals mg->FnOk l.prog w K mg base CX0 7 fa fd ["_law_script"] (qjB K):=by
 have e:=hfa.symm.trans (PySem.W.mg_of X G a3)
 cases e
 have F3:=qk4 (st:=qeb) l3 c3 k3
 refine ⟨PySem.W.fnOf "law" "law" (qbP qeb) (qbo qeb) (qad qeb) .none kV3 dc3 pm3 an3 cd3 ct3,fun s v => .of_eq rfl,fun base _ _=>?_⟩
 have c_measure:=qg7 (P:=l.prog) (w:=w) (base:=base) T.toTxt FA.f_measure
 have c_falling:=qg8 (P:=l.prog) (w:=w) (base:=base) T FA.f_falling
 have c_putat:=qjX T c_falling FA.f_put_at
 have c_weighQ:=qid c_measure FA.f_weighed
 have c_weighed:=qg4 c_measure FA.f_weighed
 have c_parted:=qif c_measure FA.f_parted
 have c_gathered:=qfE (P:=l.prog) (w:=w) (base:=base) FA.f_gathered
 have c_spreadof:=qfD T c_parted FA.f_spread_of
 have c_weightsof:=qeM T c_weighQ FA.f_weights_of
 have c_come:=qlL T c_putat c_gathered FA.f_come
 have c_askb:=qlM (P:=l.prog) (w:=w) (base:=base) T FA.f_ask_boxes
 have c_after:=qj3 T h_MOST_LOADS c_askb c_weighQ c_weightsof c_come c_spreadof FA.f_after
 have c_alone:=qj2 (P:=l.prog) (w:=w) (base:=base) FA.f_alone
 have c_meanof:=qih T c_weighQ c_parted FA.f_mean_of
 have c_box:=qmK (P:=l.prog) (w:=w) (base:=base) T FA.f_boxes_with
 have c_many:=qlK T c_box c_meanof FA.f_many_share
 have c_fulls:=qjZ c_many FA.f_fullest_share
 have c_tops:=qlG (P:=l.prog) (w:=w) (base:=base) T FA.f_tail_tops
 have c_tailsof:=qg5 T c_weighed c_tops FA.f_tails_of
 have c_parttop:=qg6 (P:=l.prog) (w:=w) (base:=base) T FA.f_part_top
 have c_bound:=qj1 T c_tailsof c_parttop c_parted FA.f_bound
 have c_least:=qij T c_tailsof c_parttop c_parted FA.f_least_layers
 have c_pen:=qlJ (P:=l.prog) (w:=w) (base:=base) T.toTxt FA.f_l_pen
 have c_draw:=qj0 (P:=l.prog) (w:=w) (base:=base) T.toTxt FA.f_l_draw
 have c_lmeasure:=qeN (P:=l.prog) (w:=w) (base:=base) T.toTxt FA.f_l_measure
 have c_lowest:=qii c_lmeasure FA.f_l_lowest
 have c_power:=qjY (P:=l.prog) (w:=w) (base:=base) T FA.f_l_power
 have c_rule:=qlI T c_draw c_lowest c_power FA.f_l_rule
 have c_layers:=qik T c_draw FA.f_l_layers
 have c_nomore:=qig (P:=l.prog) (w:=w) (base:=base) FA.f_l_is_no_more
 have c_broken:=qil (P:=l.prog) (w:=w) (base:=base) T FA.f_l_broken
 have c_sum:=qlH T c_lowest FA.f_l_sum
 have c_rows:=qjW T c_lowest c_sum FA.f_l_rows
 have c_right:=qie T c_after c_alone c_bound c_least c_fulls c_sum c_broken c_nomore FA.f_l_right
 exact qmJ T c_pen c_draw c_rule c_layers c_right c_rows c_after c_alone c_least c_fulls c_nomore F3
theorem walk {l:PySem.W.OpenLaw}{q:Program}{loose:List Str}{XP:(Str->Option Value)->Heap->Prop}{YP:World->Heap->Prop}{d:DefRec}{K:Params->PySem.W.Frag}(hn:l.most=some 63)(hdf:d.params.defaults=[])
  (hY:∀ (w:World) (h:Heap),YP w h->(K w.params).In h)
  (F:∀ (w:World) (mg:Str->Option Value) (fa:Addr) (h:Heap),(K w.params).In h->h.Ns mainGlobals mg->mg d.name=some (.ref fa) ->
    ∃ fd:FuncData,(∀ (s:Shared) (u:Value),BindsTo s fd ⟨[u],[]⟩ [("_law_script",u)])/\∀ base:Heap,(K w.params).In base->base.Ns mainGlobals mg->FnOk l.prog w (K w.params) mg base CX0 7 fa fd ["_law_script"] (qjB (K w.params))) :
  PySem.W.WalkO q loose XP YP l.row.toRowW d [] (fun f vs=>PySem.call f vs) :=
 L2.walk_of (n:=63) (k:=7) (x := "_law_script") (CX:=fun _=>CX0) (sp:=fun w=>qjB (K w.params)) hn (by decide) hdf ⟨rfl,by decide,by decide,rfl⟩ hY F (fun _ _ a ns hl _ hS=>⟨a,ns,rfl,hS,hl,fun _=>rfl⟩) fun _ _ _ _ _ z=>z
theorem mr_MOST_LOADS {K:PySem.W.Frag}{h:Heap}{mg:Str->Option Value}{tk:Tok}(X:K.In h)(G:h.Ns mainGlobals mg)(a:PySem.W.nsIn K mainGlobals "MOST_LOADS" = some (some (.int 60 tk))):∃ tk:Tok,mg "MOST_LOADS" = some (.int 60 tk):=⟨tk,PySem.W.mg_of X G a⟩
theorem txt_mk {K:PySem.W.Frag}{h:Heap}{mg:Str->Option Value}(X:K.In h)(G:h.Ns mainGlobals mg)
  (z_abs:PySem.W.nsIn K mainGlobals "abs" = some none)
  (z_len:PySem.W.nsIn K mainGlobals "len" = some none)
  (z_isinstance:PySem.W.nsIn K mainGlobals "isinstance" = some none)
  (z_range:PySem.W.nsIn K mainGlobals "range" = some none)
  (z_int:PySem.W.nsIn K mainGlobals "int" = some none)
  (z_bool:PySem.W.nsIn K mainGlobals "bool" = some none)
  (z_tuple:PySem.W.nsIn K mainGlobals "tuple" = some none)
  (z_list:PySem.W.nsIn K mainGlobals "list" = some none)
  (z_all:PySem.W.nsIn K mainGlobals "all" = some none)
  (z_str:PySem.W.nsIn K mainGlobals "str" = some none)
  (z_repr:PySem.W.nsIn K mainGlobals "repr" = some none)
  (z_dict:PySem.W.nsIn K mainGlobals "dict" = some none)
  (z_sum:PySem.W.nsIn K mainGlobals "sum" = some none)
  (z_sorted:PySem.W.nsIn K mainGlobals "sorted" = some none)
  (z_max:PySem.W.nsIn K mainGlobals "max" = some none)
  (z_min:PySem.W.nsIn K mainGlobals "min" = some none)
  (z_any:PySem.W.nsIn K mainGlobals "any" = some none)
  (z_enumerate:PySem.W.nsIn K mainGlobals "enumerate" = some none)
  (z_zip:PySem.W.nsIn K mainGlobals "zip" = some none)
  (z_set:PySem.W.nsIn K mainGlobals "set" = some none)
  (z_reversed:PySem.W.nsIn K mainGlobals "reversed" = some none)
  (z_ValueError:PySem.W.nsIn K mainGlobals "ValueError" = some none)
  : Txt2 mg:=⟨⟨PySem.W.mg_none_of X G z_abs,PySem.W.mg_none_of X G z_len,PySem.W.mg_none_of X G z_isinstance,PySem.W.mg_none_of X G z_range,PySem.W.mg_none_of X G z_int,PySem.W.mg_none_of X G z_bool,PySem.W.mg_none_of X G z_tuple,PySem.W.mg_none_of X G z_list,PySem.W.mg_none_of X G z_all⟩,PySem.W.mg_none_of X G z_str,PySem.W.mg_none_of X G z_repr,PySem.W.mg_none_of X G z_dict,PySem.W.mg_none_of X G z_sum,PySem.W.mg_none_of X G z_sorted,PySem.W.mg_none_of X G z_max,PySem.W.mg_none_of X G z_min,PySem.W.mg_none_of X G z_any,PySem.W.mg_none_of X G z_enumerate,PySem.W.mg_none_of X G z_zip,PySem.W.mg_none_of X G z_set,PySem.W.mg_none_of X G z_reversed,PySem.W.mg_none_of X G z_ValueError⟩
end My
open PySem PySem.W PyProof.Rows
set_option maxRecDepth 100000 in
set_option maxHeartbeats 0 in
theorem PySem.Challenge.cw_emptierbox_k42_whole_layers_bound_the_fu_holds : PySem.Challenge.rw_emptierbox_k42_whole_layers_bound_the_fu.Holds := by
 refine My.hd ?_
 k_fill
 refine My.walk (l:=PySem.Challenge.rw_emptierbox_k42_whole_layers_bound_the_fu) rfl rfl (fun w h Y=>PySem.W.kIn_of Y) ?F
 case F =>
  intro w mg fa h KX G hmg
  have T:My.Txt2 mg:=by
   refine' My.txt_mk KX G ?z0 ?z1 ?z2 ?z3 ?z4 ?z5 ?z6 ?z7 ?z8 ?z9 ?z10 ?z11 ?z12 ?z13 ?z14 ?z15 ?z16 ?z17 ?z18 ?z19 ?z20 ?z21
   case z0 | z1 | z2 | z3 | z4 | z5 | z6 | z7 | z8 | z9 | z10 | z11 | z12 | z13 | z14 | z15 | z16 | z17 | z18 | z19 | z20 | z21=>k_is
  have f_measure:L2.FunAt (L2.KOf KX) mg "measure" ["a", "b"] My.s_measure:=by
   dsimp only [L2.KOf]
   refine' L2.funAt_mk KX G (fun _ _ _ _ _ _=>My.ar2 fun _ _=>rfl) ?a ?l ?c ?k
   case a | l | c | k=>k_is
  have f_parted:L2.FunAt (L2.KOf KX) mg "parted" ["top", "bottoms"] My.s_parted:=by
   dsimp only [L2.KOf]
   refine' L2.funAt_mk KX G (fun _ _ _ _ _ _=>My.ar2 fun _ _=>rfl) ?a ?l ?c ?k
   case a | l | c | k=>k_is
  have f_weighed:L2.FunAt (L2.KOf KX) mg "weighed" ["some"] My.s_weighed:=by
   dsimp only [L2.KOf]
   refine' L2.funAt_mk KX G (fun _ _ _ _ _ _=>My.ar1 fun _=>rfl) ?a ?l ?c ?k
   case a | l | c | k=>k_is
  have f_tail_tops:L2.FunAt (L2.KOf KX) mg "tail_tops" ["tries", "top", "bottom"] My.s_tail_tops:=by
   dsimp only [L2.KOf]
   refine' L2.funAt_mk KX G (fun _ _ _ _ _ _=>My.ar3 fun _ _ _=>rfl) ?a ?l ?c ?k
   case a | l | c | k=>k_is
  have f_tails_of:L2.FunAt (L2.KOf KX) mg "tails_of" ["rule", "balls"] My.s_tails_of:=by
   dsimp only [L2.KOf]
   refine' L2.funAt_mk KX G (fun _ _ _ _ _ _=>My.ar2 fun _ _=>rfl) ?a ?l ?c ?k
   case a | l | c | k=>k_is
  have f_part_top:L2.FunAt (L2.KOf KX) mg "part_top" ["tails", "k", "ahead", "b"] My.s_part_top:=by
   dsimp only [L2.KOf]
   refine' L2.funAt_mk KX G (fun _ _ _ _ _ _=>My.ar4 fun _ _ _ _=>rfl) ?a ?l ?c ?k
   case a | l | c | k=>k_is
  have f_bound:L2.FunAt (L2.KOf KX) mg "bound" ["rule", "balls", "layers"] My.s_bound:=by
   dsimp only [L2.KOf]
   refine' L2.funAt_mk KX G (fun _ _ _ _ _ _=>My.ar3 fun _ _ _=>rfl) ?a ?l ?c ?k
   case a | l | c | k=>k_is
  have f_least_layers:L2.FunAt (L2.KOf KX) mg "least_layers" ["rule", "balls", "m"] My.s_least_layers:=by
   dsimp only [L2.KOf]
   refine' L2.funAt_mk KX G (fun _ _ _ _ _ _=>My.ar3 fun _ _ _=>rfl) ?a ?l ?c ?k
   case a | l | c | k=>k_is
  have f_mean_of:L2.FunAt (L2.KOf KX) mg "mean_of" ["spread", "numbers"] My.s_mean_of:=by
   dsimp only [L2.KOf]
   refine' L2.funAt_mk KX G (fun _ _ _ _ _ _=>My.ar2 fun _ _=>rfl) ?a ?l ?c ?k
   case a | l | c | k=>k_is
  have f_fullest_share:L2.FunAt (L2.KOf KX) mg "fullest_share" ["spread", "m"] My.s_fullest_share:=by
   dsimp only [L2.KOf]
   refine' L2.funAt_mk KX G (fun _ _ _ _ _ _=>My.ar2 fun _ _=>rfl) ?a ?l ?c ?k
   case a | l | c | k=>k_is
  have f_many_share:L2.FunAt (L2.KOf KX) mg "many_share" ["spread", "m", "b"] My.s_many_share:=by
   dsimp only [L2.KOf]
   refine' L2.funAt_mk KX G (fun _ _ _ _ _ _=>My.ar3 fun _ _ _=>rfl) ?a ?l ?c ?k
   case a | l | c | k=>k_is
  have f_boxes_with:L2.FunAt (L2.KOf KX) mg "boxes_with" ["load", "m"] My.s_boxes_with:=by
   dsimp only [L2.KOf]
   refine' L2.funAt_mk KX G (fun _ _ _ _ _ _=>My.ar2 fun _ _=>rfl) ?a ?l ?c ?k
   case a | l | c | k=>k_is
  have f_falling:L2.FunAt (L2.KOf KX) mg "falling" ["numbers"] My.s_falling:=by
   dsimp only [L2.KOf]
   refine' L2.funAt_mk KX G (fun _ _ _ _ _ _=>My.ar1 fun _=>rfl) ?a ?l ?c ?k
   case a | l | c | k=>k_is
  have f_put_at:L2.FunAt (L2.KOf KX) mg "put_at" ["load", "rank"] My.s_put_at:=by
   dsimp only [L2.KOf]
   refine' L2.funAt_mk KX G (fun _ _ _ _ _ _=>My.ar2 fun _ _=>rfl) ?a ?l ?c ?k
   case a | l | c | k=>k_is
  have f_alone:L2.FunAt (L2.KOf KX) mg "alone" ["load"] My.s_alone:=by
   dsimp only [L2.KOf]
   refine' L2.funAt_mk KX G (fun _ _ _ _ _ _=>My.ar1 fun _=>rfl) ?a ?l ?c ?k
   case a | l | c | k=>k_is
  have f_gathered:L2.FunAt (L2.KOf KX) mg "gathered" ["rows"] My.s_gathered:=by
   dsimp only [L2.KOf]
   refine' L2.funAt_mk KX G (fun _ _ _ _ _ _=>My.ar1 fun _=>rfl) ?a ?l ?c ?k
   case a | l | c | k=>k_is
  have f_weights_of:L2.FunAt (L2.KOf KX) mg "weights_of" ["spread"] My.s_weights_of:=by
   dsimp only [L2.KOf]
   refine' L2.funAt_mk KX G (fun _ _ _ _ _ _=>My.ar1 fun _=>rfl) ?a ?l ?c ?k
   case a | l | c | k=>k_is
  have f_spread_of:L2.FunAt (L2.KOf KX) mg "spread_of" ["weights", "bottoms"] My.s_spread_of:=by
   dsimp only [L2.KOf]
   refine' L2.funAt_mk KX G (fun _ _ _ _ _ _=>My.ar2 fun _ _=>rfl) ?a ?l ?c ?k
   case a | l | c | k=>k_is
  have f_come:L2.FunAt (L2.KOf KX) mg "come" ["chances", "weights"] My.s_come:=by
   dsimp only [L2.KOf]
   refine' L2.funAt_mk KX G (fun _ _ _ _ _ _=>My.ar2 fun _ _=>rfl) ?a ?l ?c ?k
   case a | l | c | k=>k_is
  have f_ask_boxes:L2.FunAt (L2.KOf KX) mg "ask_boxes" ["ranks", "load"] My.s_ask_boxes:=by
   dsimp only [L2.KOf]
   refine' L2.funAt_mk KX G (fun _ _ _ _ _ _=>My.ar2 fun _ _=>rfl) ?a ?l ?c ?k
   case a | l | c | k=>k_is
  have f_after:L2.FunAt (L2.KOf KX) mg "after" ["rule", "spread", "many"] My.s_after:=by
   dsimp only [L2.KOf]
   refine' L2.funAt_mk KX G (fun _ _ _ _ _ _=>My.ar3 fun _ _ _=>rfl) ?a ?l ?c ?k
   case a | l | c | k=>k_is
  have f_l_pen:L2.FunAt (L2.KOf KX) mg "_law_pen" ["_law_script"] My.s_l_pen:=by
   dsimp only [L2.KOf]
   refine' L2.funAt_mk KX G (fun _ _ _ _ _ _=>My.ar1 fun _=>rfl) ?a ?l ?c ?k
   case a | l | c | k=>k_is
  have f_l_draw:L2.FunAt (L2.KOf KX) mg "_law_draw" ["_law_pen_here", "_law_many"] My.s_l_draw:=by
   dsimp only [L2.KOf]
   refine' L2.funAt_mk KX G (fun _ _ _ _ _ _=>My.ar2 fun _ _=>rfl) ?a ?l ?c ?k
   case a | l | c | k=>k_is
  have f_l_measure:L2.FunAt (L2.KOf KX) mg "_law_measure" ["_law_a", "_law_b"] My.s_l_measure:=by
   dsimp only [L2.KOf]
   refine' L2.funAt_mk KX G (fun _ _ _ _ _ _=>My.ar2 fun _ _=>rfl) ?a ?l ?c ?k
   case a | l | c | k=>k_is
  have f_l_lowest:L2.FunAt (L2.KOf KX) mg "_law_lowest" ["_law_top", "_law_bottom"] My.s_l_lowest:=by
   dsimp only [L2.KOf]
   refine' L2.funAt_mk KX G (fun _ _ _ _ _ _=>My.ar2 fun _ _=>rfl) ?a ?l ?c ?k
   case a | l | c | k=>k_is
  have f_l_rule:L2.FunAt (L2.KOf KX) mg "_law_rule" ["_law_pen_here", "_law_n"] My.s_l_rule:=by
   dsimp only [L2.KOf]
   refine' L2.funAt_mk KX G (fun _ _ _ _ _ _=>My.ar2 fun _ _=>rfl) ?a ?l ?c ?k
   case a | l | c | k=>k_is
  have f_l_power:L2.FunAt (L2.KOf KX) mg "_law_power" ["_law_number", "_law_many"] My.s_l_power:=by
   dsimp only [L2.KOf]
   refine' L2.funAt_mk KX G (fun _ _ _ _ _ _=>My.ar2 fun _ _=>rfl) ?a ?l ?c ?k
   case a | l | c | k=>k_is
  have f_l_layers:L2.FunAt (L2.KOf KX) mg "_law_layers" ["_law_pen_here", "_law_n"] My.s_l_layers:=by
   dsimp only [L2.KOf]
   refine' L2.funAt_mk KX G (fun _ _ _ _ _ _=>My.ar2 fun _ _=>rfl) ?a ?l ?c ?k
   case a | l | c | k=>k_is
  have f_l_is_no_more:L2.FunAt (L2.KOf KX) mg "_law_is_no_more" ["_law_one", "_law_other"] My.s_l_is_no_more:=by
   dsimp only [L2.KOf]
   refine' L2.funAt_mk KX G (fun _ _ _ _ _ _=>My.ar2 fun _ _=>rfl) ?a ?l ?c ?k
   case a | l | c | k=>k_is
  have f_l_broken:L2.FunAt (L2.KOf KX) mg "_law_broken" ["_law_load", "_law_some"] My.s_l_broken:=by
   dsimp only [L2.KOf]
   refine' L2.funAt_mk KX G (fun _ _ _ _ _ _=>My.ar2 fun _ _=>rfl) ?a ?l ?c ?k
   case a | l | c | k=>k_is
  have f_l_sum:L2.FunAt (L2.KOf KX) mg "_law_sum" ["_law_parts_here"] My.s_l_sum:=by
   dsimp only [L2.KOf]
   refine' L2.funAt_mk KX G (fun _ _ _ _ _ _=>My.ar1 fun _=>rfl) ?a ?l ?c ?k
   case a | l | c | k=>k_is
  have f_l_rows:L2.FunAt (L2.KOf KX) mg "_law_rows" ["_law_rule_here", "_law_balls", "_law_m"] My.s_l_rows:=by
   dsimp only [L2.KOf]
   refine' L2.funAt_mk KX G (fun _ _ _ _ _ _=>My.ar3 fun _ _ _=>rfl) ?a ?l ?c ?k
   case a | l | c | k=>k_is
  have f_l_right:L2.FunAt (L2.KOf KX) mg "_law_right" ["_law_rule_here", "_law_balls", "_law_some"] My.s_l_right:=by
   dsimp only [L2.KOf]
   refine' L2.funAt_mk KX G (fun _ _ _ _ _ _=>My.ar3 fun _ _ _=>rfl) ?a ?l ?c ?k
   case a | l | c | k=>k_is
  have h_MOST_LOADS:∃ tk:Tok,mg "MOST_LOADS" = some (.int 60 tk):=by
   refine' My.mr_MOST_LOADS KX G ?a
   (case a=>first | k_is | exact rfl)
  obtain ⟨tk_MOST_LOADS,h_MOST_LOADS⟩:=h_MOST_LOADS
  refine' My.all_mk KX G hmg T ⟨f_measure,f_parted,f_weighed,f_tail_tops,f_tails_of,f_part_top,f_bound,f_least_layers,f_mean_of,f_fullest_share,f_many_share,f_boxes_with,f_falling,f_put_at,f_alone,f_gathered,f_weights_of,f_spread_of,f_come,f_ask_boxes,f_after,f_l_pen,f_l_draw,f_l_measure,f_l_lowest,f_l_rule,f_l_power,f_l_layers,f_l_is_no_more,f_l_broken,f_l_sum,f_l_rows,f_l_right⟩ h_MOST_LOADS ?a3 ?l3 ?c3 ?k3
  (case a3=>k_is); (case l3=>k_is); (case c3=>k_is); (case k3=>k_is)

