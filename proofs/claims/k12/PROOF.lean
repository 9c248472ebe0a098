import PyProof.Rows.All
import Wide.All
import OpenK.AllK
import Wide.FinOn
import Lean
import PyProof.EqAt
import PyProof.EqKinds
import PyProof.TupleCall
import PyProof.NeKinds
import PyProof.SliceStr2
import PyProof.ConsumeWalk
import KE.KDictSum
import PyProof.DictWalks
import PyProof.AttrMissSeq
import KE.KDictOf
import PyProof.WalksS
import PyProof.Walks
import PyProof.DictList
import PyProof.MeetsDict
import PyProof.FactsAll.dict_3
import PyProof.MinMaxWalk
import PyProof.WalkInts
import PyProof.Rows.CallKwBuiltin
import PyProof.MaxThree
import PyProof.Rows.SortRunsK
import KE.KSortAsk
import PyProof.Rows.SortShellK
import KE.KSortTup
import PyProof.DictRoadsH
import PyProof.DictIter
import KE.KDictList
import PyProof.ZipIter
import PyProof.TupleIter
import PyProof.WalksMore
import PyProof.SumWalkG
import PyProof.DictValues
import PyProof.FactsAll.dict_4
import PySem.SetOps
import OpenK.KMore
import PyProof.ListRange
import PyProof.DictItems
import PyProof.CallStr
import KE.KIntText
import PyProof.StrCalls2
import PyProof.Rows.StrItems
import PyProof.FactsAll.NoneType
import KE.KTryOn
import PyProof.Draws
import PyProof.EnumMake
import PyProof.Rows.Range3
import KE.KRevIter
import PyProof.ListStr
import PyProof.NsDelKeeps
import PyProof.RulesAs
import KE.KIsAll
import PyProof.ExcArgsOwn
import KE.KFind
import PyProof.ExcInit
import KE.KTryMore
import PySem.Challenge.RW_wirechannel_k12_channels_refused
set_option hygiene false
set_option compiler.extract_closed false
noncomputable section
local macro_rules | `(tactic| omega) => `(tactic| lia)
set_option Elab.async false
set_option linter.all false
set_option maxRecDepth 100000
def aa:=@PySem.wpAny_bind
def ae:=@List.length_map
def af:=@PySem.Heap.get?_push_of_some
def ag:=@PySem.wpAny_pure
def ah:=@List.mem_cons
def ai:=@List.forall_mem_cons
def aj:=@List.length_append
def ao:=@List.getElem?_eq_getElem
def aq:=@PySem.Heap.lt_size
def ar:=@List.size_toArray
def au:=@List.map_cons
def av:=@List.mem_append
def aw:=@Nat.le_refl
def ax:=@PySem.Heap.get?_push_size
def ay:=@Bool.false_eq_true
def az:=@Bool.false_ne_true
def aA:=@List.mem_cons_of_mem
def aB:=@List.length_cons
def aD:=@Nat.ne_of_lt
def aE:=@List.map_append
def aF:=@Nat.lt_of_lt_of_le
def aG:=@Array.length_toList
def aH:=@Int.emod_nonneg
def aI:=@List.mem_map_of_mem
def aJ:=@Int.emod_lt_of_pos
def aK:=@List.not_mem_nil
def aL:=@decide_eq_false
def aM:=@List.append_nil
def aN:=@List.mem_map
def aO:=@List.mem_singleton
def aP:=@List.length_take
def aQ:=@PySem.wpAny_holding
def aR:=@List.getElem?_map
def aS:=@List.getElem?_eq_some_iff
def aT:=@Nat.le_trans
def aU:=@PySem.Heap.get?_update_other
def aV:=@List.mem_append_right
def aW:=@List.pairwise_cons
def aX:=@if_false
def aY:=@List.nodup_cons
def aZ:=@List.count_eq_zero
def a9:=@PySem.W.mg_none_of
def ba:=@PySem.W.mg_of
def bc:=@PySem.wpAny_mono
def bf:=@List.mem_filter
def bg:=@Nat.zero_le
def bh:=@if_true
def bj:=@List.mem_cons_self
def bp:=@Nat.le_succ
def br:=@List.map_map
def bu:=@List.length_nil
namespace L2
open PySem PySem.Spec PyProof.Rows
noncomputable abbrev Key:=Sum Int Str
noncomputable def Gq:Key->Value->Bool
 | .inl k,v=>Value.isInt k v
 | .inr x,v=>Value.isStrOf x v
noncomputable def Lu(w:World):Key->Int
 | .inl k=>hashInt k
 | .inr x=>hashStr w x
theorem rL:∀{k:Key} {v:Value},Gq k v=true->(∃i t,k=Sum.inl i/\v=Value.int i t)\/(∃x t,k=Sum.inr x/\v=Value.str x t)
 | .inl i,v,h=>by
  obtain⟨t,e⟩:=Value.isInt_shape (k:=i) (v:=v) h;exact .inl ⟨i,t,rfl,e⟩
 | .inr x,v,h=>by
  obtain⟨t,e⟩:=Value.isStrOf_shape (x:=x) (v:=v) h;exact .inr ⟨x,t,rfl,e⟩
theorem MP(a b:Int):decide ((Sum.inl a:Key)=Sum.inl b)=(a==b):=by
 by_cases e:a=b
 ·subst e;simp
 ·have h:¬(Sum.inl a:Key)=Sum.inl b:=fun q=>e (Sum.inl.inj q)
  rw[aL h];exact(beq_eq_false_iff_ne.mpr e).symm
theorem MO(a b:Str):decide ((Sum.inr a:Key)=Sum.inr b)=decide (a=b):=by
 by_cases e:a=b
 ·subst e;simp
 ·have h:¬(Sum.inr a:Key)=Sum.inr b:=fun q=>e (Sum.inr.inj q)
  rw[aL h,aL e]
theorem MN(a:Int)(b:Str):decide ((Sum.inl a:Key)=Sum.inr b)=false:=aL (fun q=>nomatch q)
theorem MM(a:Str)(b:Int):decide ((Sum.inr a:Key)=Sum.inl b)=false:=aL (fun q=>nomatch q)
noncomputable def Hs(prog:Program)(w:World):PySem.KeyKind prog w Key where
 is:=Gq
 hash:=Lu w
 inj:=fun v a b ha hb=>by
  rcases rL ha with⟨i,t,rfl,rfl⟩ | ⟨x,t,rfl,rfl⟩
  ·rcases rL hb with⟨j,u,rfl,e⟩ | ⟨y,u,rfl,e⟩
   ·injection e with e1 _;rw[e1]
   ·exact nomatch e
  ·rcases rL hb with⟨j,u,rfl,e⟩ | ⟨y,u,rfl,e⟩
   ·exact nomatch e
   ·injection e with e1 _;rw[e1]
 byValue:=fun k v h=>by
  rcases rL h with⟨i,t,rfl,rfl⟩ | ⟨x,t,rfl,rfl⟩<;>rfl
 pyHash:=fun hv h=>by
  rcases rL hv with⟨i,t,rfl,rfl⟩ | ⟨x,t,rfl,rfl⟩
  ·exact wpAny_pyHash_int h
  ·exact wpAny_pyHash_str h
 eqBool:=fun hu hv h=>by
  rcases rL hu with⟨i,t,rfl,rfl⟩ | ⟨x,t,rfl,rfl⟩
  ·rcases rL hv with⟨j,u,rfl,rfl⟩ | ⟨y,u,rfl,rfl⟩
   ·rw[MP] at h;exact wpAny_eqBool_int h
   ·rw[MN] at h;exact SeqAt.EqAt.int_str i t y u _ _ _ _ h
  ·rcases rL hv with⟨j,u,rfl,rfl⟩ | ⟨y,u,rfl,rfl⟩
   ·rw[MM] at h;exact SeqAt.EqAt.str_int x t j u _ _ _ _ h
   ·rw[MO] at h;exact wpAny_eqBool_str h
 «strs»:=fun k x t v h=>by
  rcases rL h with⟨i,u,rfl,e⟩ | ⟨y,u,rfl,e⟩
  ·exact nomatch e
  ·injection e with e1 _
   subst e1;cases v<;>rfl
end L2
namespace L2
open PySem PySem.Spec PyProof.Rows
inductive V where
 | non | bl (b:Bool) | int (i:Int) | str (x:Str) | Bu (b:Array UInt8) | Bs (b:UInt64) | ref (a:Addr) | ty (n:String)
 deriving DecidableEq
def RelV:V->Value->Prop
 | .non,u=>u=Value.none
 | .bl b,u=>u=Value.bool b
 | .int i,u=>∃t,u=Value.int i t
 | .str x,u=>∃t,u=Value.str x t
 | .Bu b,u=>∃t,u=Value.bytes b t
 | .Bs b,u=>∃t,u=Value.float b t
 | .ref a,u=>u=Value.ref a
 | .ty n,u=>u=Value.type n
abbrev Vals:List V->List Value->Prop:=Paired RelV
theorem Vals.length{xs:List V}{us:List Value}(r:Vals xs us):xs.length=us.length:=Paired.length r
theorem Vals.get:∀{xs:List V} {us:List Value} {i:Nat} {x:V},Vals xs us->xs[i]?=some x->∃u,us[i]?=some u/\RelV x u
 | _,_,_,_,.nil,e=>by simp at e
 | _,_,0,_,.cons r _,e=>by simp at e;subst e;exact⟨_,rfl,r⟩
 | _,_,i+1,x,.cons _ t,e=>by
  obtain⟨u,h1,h2⟩:=Vals.get (i:=i) (x:=x) t (by simpa using e);exact⟨u,by simpa using h1,h2⟩
theorem Vals.set{x:V}{u:Value}(r:RelV x u):∀{xs:List V} {us:List Value} (i:Nat),Vals xs us->Vals (xs.set i x) (us.set i u)
 | _,_,_,.nil=>.nil
 | _,_,0,.cons _ t=>.cons r t
 | _,_,i+1,.cons q t=>.cons q (Vals.set r i t)
theorem Vals.append{xs ys:List V}{us ws:List Value}(h:Vals xs us)(s:Vals ys ws):Vals (xs++ys) (us++ws):=by
 induction h with
 | nil=>exact s
 | cons r t ih=>exact .cons r ih
theorem Vals.take:∀{xs:List V} {us:List Value} (n:Nat),Vals xs us->Vals (xs.take n) (us.take n)
 | _,_,0,_=>.nil
 | _,_,_+1,.nil=>.nil
 | _,_,n+1,.cons r t=>.cons r (Vals.take n t)
theorem Vals.drop:∀{xs:List V} {us:List Value} (n:Nat),Vals xs us->Vals (xs.drop n) (us.drop n)
 | _,_,0,r=>r
 | _,_,_+1,.nil=>.nil
 | _,_,n+1,.cons _ t=>Vals.drop n t
def k8:Option V->Option Value->Prop
 | some v,some u=>RelV v u
 | none,none=>True
 | _,_=>False
def KV{κ:Type}:List (κ×V)->List (κ×Value)->Prop:=Paired fun(p:κ×V) (q:κ×Value)=>p.1=q.1/\RelV p.2 q.2
noncomputable def kV:Key->V
 | .inl i=>.int i
 | .inr x=>.str x
inductive HO where
 /-- a list -/
 | lst (xs:List V)
 /-- a tuple (never changes) -/
 | tup (xs:List V)
 /-- a dict yy keys are ints and texts;one yy keys are tuples of ints and texts (oZ empty one is both) -/
 | dK (cI:List (Key×V)) (ep:Nat) | dT (cI:List (List Key×V)) (bs:List Addr×Nat)
 /-- a set of ints: its members,its size -/
 | set (S:Int->Bool) (n:Nat)
 /-- an instance of oZ class at C,its dict at dx,its attributes -/
 | ins (C dx:Addr) (fs:List (Str×V))
 /-- oZ dict of oZ instance at x -/
 | own (x:Addr)
 /-- oZ dict of an exception -/
 | xd (fs:List (Str×V))
 /-- a bound method,f of x -/
 | met (f x:Addr)
 /-- a range object lo,lo+1,.. below hi -/
 | A7 (lo hi:Int)
 /-- a yD To is known to oZ object (oZ pK;a dict while a loop walks it): read,never written while it is so -/
 | jL (o:Obj) (u:HO)
 /-- a code yN table -/
 | tD (ps:Array Value)
 /-- any other yD,by DP is true of its one object (a def of JJ own: VE a S n:=HO.ext fun h=>..) -/
 | ext (φ:Heap->Prop)
noncomputable abbrev Hp:=Addr->Option HO
noncomputable def upd(H:Hp)(a:Addr)(o:HO):Hp:=fun b=>if b=a then some o else H b
theorem gB{H:Hp}{a:Addr}{o:HO}:upd H a o a=some o:=by unfold upd;rw[if_pos rfl]
theorem cN{H:Hp}{a b:Addr}{o:HO}(h:b≠a):upd H a o b=H b:=by unfold upd;rw[if_neg h]
theorem LC{H:Hp}{a b:Addr}{o u:HO}(h:H a=some o)(h':H b=some u)(d:o≠u):a≠b:=by
 intro e;subst e;rw[h] at h';exact d (Option.some.inj h')
theorem gX{H:Hp}{a b:Addr}{o:HO}(h:H a=some o)(h':H b=none):a≠b:=by
 intro e;subst e;rw[h] at h';cases h'
section
variable (P:Program) (w:World)
def dF(H:Hp)(h:Heap)(a:Addr):HO->Prop
 | .lst xs=>xs.length<=sizeLine/\∃(its:List Value) (n:Nat),Vals xs its/\h.get? a=some { cls:=.type "list",data:=.seq its.toArray n }
 | .tup xs=>xs.length<=sizeLine/\∃its:List Value,Vals xs its/\IsTup h a its.toArray
 | .dK cI ep=>cI.length<=sizeLine/\(a==sysModules)=false/\∃vs,KV cI vs/\h.DictAt (Hs P w) a vs ep
 | .dT cI bs=>cI.length<=sizeLine/\(a==sysModules)=false/\∃xs:List (List Key×Addr×Value),xs.map (fun x=>x.2.1)=bs.1/\
   Paired (fun(p:List Key×V) (q:List Key×Addr×Value)=>p.1=q.1/\H q.2.1=some (.tup (p.1.map kV))/\RelV p.2 q.2.2) cI xs/\
   ∃o es ep,h.get? a=some o/\o.ExactDict/\o.data=.dict es ep/\es.toList=xs.map (entryOfKey (tupleKind (Hs P w)))/\(xs.map (·.1)).Nodup/\ep=bs.2
 | .set S n=>h.SetOf (intKind P w) a S n
 | .ins C dx fs=>H dx=some (.own a)/\fs.length<=1000/\dx≠a/\h.get? a=some (PySem.W.instObj C dx)/\
   ∃mA,h.Ns1 dx mA/\(∀f,k8 (fs.lookup f) (mA f))/\PySem.Within mA (fs.map (·.1))
 | .own _=>∃o,h.get? a=some o
 | .xd fs=>∃mA,h.Ns1 a mA/\∀f,k8 (fs.lookup f) (mA f)
 | .A7 lo hi=>∃t u v,h.get? a=some { cls:=.type "range",data:=.fields #[.int lo t,.int hi u,.int 1 v] }
 | .jL o u=>h.get? a=some o/\dF H h a u
 | .tD ps=>h.get? a=some { cls:=.none,data:=.fields ps }
 | .met f x=>h.get? a=some (PySem.W.methodObj (.ref f) (.ref x))
 | .ext φ=>φ h/\(∃o,h.get? a=some o)/\∀h1 h2:Heap,φ h1->(∀o,h1.get? a=some o->h2.get? a=some o)->φ h2
def iQ(H:Hp)(h:Heap):Prop:=∀a o,H a=some o->dF P w H h a o
end
section
variable {P:Program} {w:World} {H H':Hp} {h h':Heap} {a:Addr} {o:HO}
theorem dF.lt(x:dF P w H h a o):a<h.objs.size:=by
 cases o with
 | lst xs=>obtain⟨_,_,_,_,e⟩:=x;exact aq e
 | tup xs=>obtain⟨_,_,_,p⟩:=x;exact p.lt
 | dK cI ep=>obtain⟨_,_,_,_,o,_,e,_⟩:=x;exact aq e
 | dT cI bs=>obtain⟨_,_,_,_,_,o,_,_,e,_⟩:=x;exact aq e
 | set S n=>obtain⟨o,_,_,_,e,_⟩:=x;exact aq e
 | ins C dx fs=>obtain⟨_,_,_,e,_⟩:=x;exact aq e
 | own y=>obtain⟨_,e⟩:=x;exact aq e
 | xd fs=>obtain⟨_,⟨_,_,_,e,_⟩,_⟩:=x;exact aq e
 | A7 lo hi=>obtain⟨_,_,_,e⟩:=x;exact aq e
 | jL ob u=>obtain⟨e,_⟩:=x;exact aq e
 | tD ps=>exact aq (show h.get? a=some _ from x)
 | met f y=>exact aq (show h.get? a=some _ from x)
 | ext φ=>obtain⟨_,⟨_,e⟩,_⟩:=x;exact aq e
theorem Paired.Ea{α β:Type}{F G:α->β->Prop}{yU:List α}{yT:List β}(h:Paired F yU yT)(f:∀a b,F a b->G a b):Paired G yU yT:=by
 induction h with
 | nil=>exact .nil
 | cons r t ih=>exact .cons (f _ _ r) ih
theorem dF.jq(x:dF P w H h a o)(k:∀b u,(b=a\/H b=some (.own a))->h.get? b=some u->h'.get? b=some u)
  (ho:∀b,H b=some (.own a)->H' b=some (.own a)) (ht:∀b xs,H b=some (.tup xs)->H' b=some (.tup xs)):dF P w H' h' a o:=by
 induction o with
 | lst xs=>obtain⟨z,its,n,r,e⟩:=x;exact⟨z,its,n,r,k _ _ (.inl rfl) e⟩
 | tup xs=>obtain⟨z,its,r,ob,e,c⟩:=x;exact⟨z,its,r,ob,k _ _ (.inl rfl) e,c⟩
 | dK cI ep=>obtain⟨z,y,vs,r,ob,es,e,c⟩:=x;exact⟨z,y,vs,r,ob,es,k _ _ (.inl rfl) e,c⟩
 | dT cI bs=>
  obtain⟨z,y,xs,bq,r,ob,es,ep,e,c⟩:=x;exact⟨z,y,xs,bq,Paired.Ea r fun p q z=>⟨z.1,ht _ _ z.2.1,z.2.2⟩,ob,es,ep,k _ _ (.inl rfl) e,c⟩
 | set S n=>obtain⟨ob,es,ep,t,e,c⟩:=x;exact⟨ob,es,ep,t,k _ _ (.inl rfl) e,c⟩
 | ins C dx fs=>
  obtain⟨d,z,ne,e,mA,⟨od,es,ep,e2,c⟩,r⟩:=x;exact⟨ho _ d,z,ne,k _ _ (.inl rfl) e,mA,⟨od,es,ep,k _ _ (.inr d) e2,c⟩,r⟩
 | own y=>obtain⟨ob,e⟩:=x;exact⟨ob,k _ _ (.inl rfl) e⟩
 | xd fs=>obtain⟨mA,⟨od,es,ep,e,c⟩,r⟩:=x;exact⟨mA,⟨od,es,ep,k _ _ (.inl rfl) e,c⟩,r⟩
 | A7 lo hi=>obtain⟨t,u,v,e⟩:=x;exact⟨t,u,v,k _ _ (.inl rfl) e⟩
 | jL ob u ih=>obtain⟨e,q⟩:=x;exact⟨k _ _ (.inl rfl) e,ih q⟩
 | tD ps=>
  have e:h.get? a=some { cls:=.none,data:=.fields ps }:=x;show h'.get? a=some { cls:=.none,data:=.fields ps };exact k a _ (.inl rfl) e
 | met f y=>
  have e:h.get? a=some (PySem.W.methodObj (.ref f) (.ref y)):=x;show h'.get? a=some (PySem.W.methodObj (.ref f) (.ref y));exact k a _ (.inl rfl) e
 | ext φ=>obtain⟨p,⟨o,e⟩,st⟩:=x;exact⟨st _ _ p fun o q=>k _ _ (.inl rfl) q,⟨o,k _ _ (.inl rfl) e⟩,st⟩
theorem iQ.lt(x:iQ P w H h)(e:H a=some o):a<h.objs.size:=(x a o e).lt
theorem iQ.fresh(x:iQ P w H h)(e:h.objs.size<=a):H a=none:=by
 cases q:H a with
 | none=>rfl
 | some u=>exact absurd (aF (x.lt q) e) (Nat.lt_irrefl _)
theorem iQ.kept(x:iQ P w H h)(k:∀b u,h.get? b=some u->h'.get? b=some u):iQ P w H h':=fun a o e=>
 (x a o e).jq (fun b u _ q=>k b u q) (fun _ q=>q) fun _ _ q=>q
theorem iQ.laid(x:iQ P w H h)(k:∀b u,h.get? b=some u->h'.get? b=some u)(hp:h.objs.size<=a)(new:dF P w (upd H a o) h' a o):iQ P w (upd H a o) h':=fun b u e=>by
 have hn:=x.fresh hp;by_cases hb:b=a
 ·subst hb;rw[gB] at e;cases e;exact new
 ·rw[cN hb] at e;exact(x b u e).jq (fun c v _ q=>k c v q) (fun c q=>by rw[cN (gX q hn)];exact q) fun c xs q=>by rw[cN (gX q hn)];exact q
end
def Rd(H:Hp)(a:Addr)(u:HO):Prop:=H a=some u\/∃o,H a=some (.jL o u)
theorem Rd.ok{P:Program}{w:World}{H:Hp}{h:Heap}{a:Addr}{u:HO}(r:Rd H a u)(x:iQ P w H h):dF P w H h a u:=by
 rcases r with r | ⟨o,r⟩
 ·exact x a u r
 ·obtain⟨_,q⟩:=x a _ r;exact q
def BB:Option HO->Prop
 | some (.lst _)=>True
 | some (.dK _ _)=>True
 | some (.dT _ _)=>True
 | some (.set _ _)=>True
 | some (.ins _ _ _)=>True
 | some (.ext _)=>True
 | _=>False
section
variable {P:Program} {w:World} {H:Hp} {h h':Heap} {x e:Addr} {o':HO}
theorem iQ.write(ok:iQ P w H h)(mu:BB (H x))(he:e=x\/H e=some (.own x))(k:∀b u,b≠e->h.get? b=some u->h'.get? b=some u)(wz:∃u,h'.get? e=some u)
  (new:dF P w (upd H x o') h' x o'):iQ P w (upd H x o') h':=fun b u q=>by
 have yP:∀c y,H c=some (.own y)->c≠x:=fun c y r z=>by subst z;rw[r] at mu;exact mu
 have D6:∀c xs,H c=some (.tup xs)->c≠x:=fun c xs r z=>by subst z;rw[r] at mu;exact mu
 by_cases hb:b=x
 ·subst hb;rw[gB] at q;cases q;exact new
 ·rw[cN hb] at q;by_cases uZ:b=e
  ·have q':H b=some (.own x):=by
    rcases he with z | z
    ·exact absurd (uZ.trans z) hb
    ·rw[uZ];exact z
   rw[q] at q';cases q';obtain⟨v,hv⟩:=wz;exact⟨v,by rw[uZ];exact hv⟩
  ·refine(ok b u q).jq (fun c v hc r=>k c v ?_ r) (fun c r=>by rw[cN (yP c b r)];exact r) fun c xs r=>by rw[cN (D6 c xs r)];exact r
   rcases hc with rfl | hc
   ·exact uZ
   ·rintro rfl;rcases he with z | z
    ·exact yP c b hc z
    ·rw[hc] at z;cases z;exact hb rfl
end
structure Un (fs ex:List Addr) (H H':Hp) (h h':Heap):Prop where
 keep:∀b o,h.get? b=some o->H b=none->b∉fs->b∉ex->h'.get? b=some o
 slot:∀b o,h.get? b=some o->H b=none->b∈fs->b∉ex->∃sl,h'.get? b=some { o with slots:=sl }
 free:∀b o,h.get? b=some o->H b=none->b∉ex->H' b=none
 there:∀b o,h.get? b=some o->b∉ex->∃o',h'.get? b=some o'
 il:∀b xs,H b=some (.tup xs)->H' b=some (.tup xs)
 hV:∀b o u,H b=some (.jL o u)->H' b=some (.jL o u)
 ip:∀b ps,H b=some (.tD ps)->∃more,H' b=some (.tD (ps++more))
section
variable {fs o7 ex V2:List Addr} {H H1 H2:Hp} {h h1 h2 h':Heap} {a x e:Addr} {o:HO}
theorem Un.any(u:Un fs ex H H1 h h1){b:Addr}{ob:Obj}(q:h.get? b=some ob)(n:H b=none)(hx:b∉ex):∃sl,h1.get? b=some { ob with slots:=sl }:=by
 by_cases hb:b∈fs
 ·exact u.slot b ob q n hb hx
 ·exact⟨ob.slots,u.keep b ob q n hb hx⟩
theorem Un.kept(k:∀b u,h.get? b=some u->h'.get? b=some u):Un fs ex H H h h':=
 ⟨fun b ob q _ _ _=>k b ob q,fun b ob q _ _ _=>⟨ob.slots,k b ob q⟩,fun _ _ _ n _=>n,fun b ob q _=>⟨ob,k b ob q⟩,fun _ _ q=>q,fun _ _ _ q=>q,fun _ ps q=>⟨#[],by rw[q];simp⟩⟩
theorem Un.refl:Un fs ex H H h h:=Un.kept fun _ _ q=>q
theorem Un.laid(k:∀b u,h.get? b=some u->h'.get? b=some u)(hp:h.objs.size<=a)(hn:H a=none):Un fs ex H (upd H a o) h h' where
 keep:=fun b u q _ _ _=>k b u q
 slot:=fun b u q _ _ _=>⟨u.slots,k b u q⟩
 free:=fun b u q n _=>by rw[cN (aD (aF (aq q) hp))];exact n
 there:=fun b u q _=>⟨u,k b u q⟩
 il:=fun b xs q=>by rw[cN (gX q hn)];exact q
 hV:=fun b u xs q=>by rw[cN (gX q hn)];exact q
 ip:=fun b ps q=>⟨#[],by rw[cN (gX q hn),q];simp⟩
theorem Un.write(mu:BB (H x))(he:e=x\/H e=some (.own x))(k:∀b u,b≠e->h.get? b=some u->h'.get? b=some u)(wz:∃u,h'.get? e=some u):Un fs ex H (upd H x o) h h':=by
 have hx:∀b,H b=none->b≠x:=fun b n z=>by subst z;rw[n] at mu;exact mu
 have hb:∀b,H b=none->b≠e:=fun b n z=>by
  subst z;rcases he with r | r
  ·exact hx b n r
  ·rw[n] at r;cases r
 have hm:∀b u,H b=some u->¬BB (some u)->b≠x:=fun b u q nm z=>by subst z;rw[q] at mu;exact nm mu
 refine⟨fun b u q n _ _=>k b u (hb b n) q,fun b u q n _ _=>⟨u.slots,k b u (hb b n) q⟩,fun b u q n _=>by rw[cN (hx b n)];exact n,fun b u q _=>?_,
  fun b xs q=>by rw[cN (hm b _ q fun z=>z)];exact q,fun b u xs q=>by rw[cN (hm b _ q fun z=>z)];exact q,fun b ps q=>⟨#[],by rw[cN (hm b _ q fun z=>z),q];simp⟩⟩
 by_cases uZ:b=e
 ·subst uZ;exact wz
 ·exact⟨u,k b u uZ q⟩
end
noncomputable def A0(h:Heap)(H:Hp):List Addr:=(List.range h.objs.size).filter fun a=>(H a).isSome
noncomputable def qW(h:Heap)(H:Hp):Heap:=PySem.W.hideAll h (A0 h H)
theorem P8(h:Heap)(H:Hp):(qW h H).objs.size=h.objs.size:=PySem.W.hideAll_size _ _
theorem OL{h:Heap}{H:Hp}{b:Addr}{o:Obj}(e:h.get? b=some o)(n:H b=none):(qW h H).get? b=some o:=
 PySem.W.hideAll_get _ e fun hm=>by
  have q:(H b).isSome=true:=(bf.mp hm).2;rw[n] at q;simp at q
theorem Ou{h:Heap}{H:Hp}{b:Addr}{o:Obj}(e:(qW h H).get? b=some o):h.get? b=some o/\H b=none:=by
 have e':h.get? b=some o:=PySem.W.of_hideAll (A0 h H) e;refine⟨e',?_⟩;cases q:H b with
 | none=>rfl
 | some x=>
  have hm:b∈A0 h H:=bf.mpr ⟨List.mem_range.mpr (aq e'),by simp[q]⟩;have z:(qW h H).get? b=none:=PySem.W.hideAll_none (A0 h H) hm;rw[z] at e;cases e
noncomputable def Ot(g h:Heap)(L:Addr):List (Addr×Obj):=(List.range h.objs.size).filterMap fun a=>if a=L\/(g.get? a).isSome=true then none else(h.get? a).map fun o=>(a,o)
noncomputable def rest(g h:Heap)(L d:Addr):List (Addr×Obj):=(Ot g h L).filter fun p=>decide (p.1≠d)
end L2
namespace L2
open PySem PySem.Spec PyProof.Rows
structure Mod (K:PySem.W.Frag) (mg:Str->Option Value) (base:Heap):Prop where
 wg:K.In base
 glob:base.Ns mainGlobals mg
 blt:∃mb,base.Ns builtinsNs mb/\∀x:Str,x≠"__name__"->mb x=bootBuiltins x
 nolimit:base.NoLimit
structure Cx where
 prog:Program
 w:World
 K:PySem.W.Frag
 mg:Str->Option Value
 base:Heap
 A:Around
 N:List Str
 cS:Shared
 oG:Hp
 env:Env
 outer:List Env
 stack:List Env
 ex:List Addr
 fn:Str->Bool
 calm:Bool
 pn:List (Addr×Obj)
 xe:Value->Shared->Prop
noncomputable def ig(l:List Env):List Addr:=l.filterMap (·.frame)
noncomputable abbrev Cx.fs(X:Cx):List Addr:=ig X.outer
def l8(sc:Scope)(x:Str):Prop:=sc.names.lookup x=some .local\/sc.names.lookup x=some .cell\/sc.names.lookup x=some .free
def Loc(sc:Scope)(x:Str):Prop:=sc.names.lookup x=some .local\/sc.names.lookup x=some .cell
def Look(env:Env)(h:Heap)(m:Str->Option Value)(x:Str)(u:Value):Prop:=
 (env.kindOf x=some .local/\m x=some u)\/((env.kindOf x=some .cell\/env.kindOf x=some .free)/\∃c,env.cells.lookup x=some c/\h.IsCell c (some u))
structure Cx.Ok (X:Cx):Prop where
 mod:Mod X.K X.mg X.base
 kind:X.env.scope.kind=.function
 glob:X.env.globals=mainGlobals
 blt:X.env.builtins=builtinsNs
 above:X.cS.heap.objs.size<=X.env.locals
 inj:∀x y c,X.env.cells.lookup x=some c->X.env.cells.lookup y=some c->x=y
 has:∀x,(X.env.kindOf x=some .cell\/X.env.kindOf x=some .free)->∃c,X.env.cells.lookup x=some c
 cab:∀x c,X.fn x=true->X.env.cells.lookup x=some c->X.cS.heap.objs.size<=c
 hd:X.calm=true->X.A.handled=none
 frames:X.A.frames=some X.stack
 yH:X.stack=X.outer\/(X.stack=X.env::X.outer/\X.env.frame=some X.env.locals)
 exf:∀b∈X.ex,b≠X.env.locals/\∀x c,X.env.cells.lookup x=some c->c≠b
 bs:∀b o,X.base.get? b=some o->X.cS.heap.get? b=some o/\X.oG b=none
 sC:X.base.objs.size<=X.cS.heap.objs.size
 om:∀b o,X.base.get? b=some o->b∉X.ex
 oA:∀b∈X.ex,b∉X.fs
 gC:X.cS.heap.FunFrames X.base X.outer
 qd:∀b∈X.fs,X.oG b=none
structure Inv (X:Cx) (pins:List (Addr×Obj)) (σ:List (Option V)) (H:Hp) (s:Shared):Prop where
 ok:X.Ok
 os:s.os=X.cS.os
 bare:AllBare s.gens
 base:Un X.fs X.ex X.oG H X.cS.heap s.heap
 loc:∃m,s.heap.Ns X.env.locals m/\∀(i:Nat) (x:Str) (v:V),X.N[i]?=some x->σ[i]?=some (some v)->l8 X.env.scope x->∃u,RelV v u/\Look X.env s.heap m x u
 cell:∀x c,X.env.cells.lookup x=some c->∃v,s.heap.IsCell c v
 free:H X.env.locals=none
 eU:∀x c,X.env.cells.lookup x=some c->H c=none
 pin:∀p∈X.pn++pins,s.heap.get? p.1=some p.2/\H p.1=none/\p.1≠X.env.locals/\p.1∉X.fs/\∀v,p.2.data≠.cell v
 cB:iQ X.prog X.w H s.heap
 len:σ.length=X.N.length
section
variable {X:Cx} {pins:List (Addr×Obj)} {σ:List (Option V)} {H H':Hp} {s:Shared} {h':Heap}
theorem Cx.Ok.D8(ok:X.Ok){b:Addr}{o:Obj}(e:X.base.get? b=some o):b∉X.fs:=fun hb=>by
 have:=(ok.gC.mem hb).1;rw[e] at this;cases this
theorem Inv.bs(I:Inv X pins σ H s):∀b o,X.base.get? b=some o->s.heap.get? b=some o/\H b=none:=fun b o e=>
 ⟨I.base.keep b o (I.ok.bs b o e).1 (I.ok.bs b o e).2 (I.ok.D8 e) (I.ok.om b o e),I.base.free b o (I.ok.bs b o e).1 (I.ok.bs b o e).2 (I.ok.om b o e)⟩
theorem Inv.bk(I:Inv X pins σ H s):∀b o,X.base.get? b=some o->s.heap.get? b=some o:=fun b o e=>(I.bs b o e).1
theorem Inv.mod(I:Inv X pins σ H s):Mod X.K X.mg X.base:=I.ok.mod
theorem Inv.i4(I:Inv X pins σ H s):X.K.In s.heap:=I.ok.mod.wg.keeps I.bk
theorem Inv.lt(I:Inv X pins σ H s):X.env.locals<s.heap.objs.size:=let⟨_,hn,_⟩:=I.loc;hn.lt
theorem Inv.sz(I:Inv X pins σ H s):X.cS.heap.objs.size<=s.heap.objs.size:=aT I.ok.above (Nat.le_of_lt I.lt)
theorem Inv.D7(I:Inv X pins σ H s){a:Addr}(h:s.heap.objs.size<=a):a∉X.fs:=fun hb=>by
 obtain⟨_,o,ho,_⟩:=I.ok.gC.mem hb;exact absurd (aF (aq ho) (aT I.sz h)) (Nat.lt_irrefl _)
theorem Inv.qh(I:Inv X pins σ H s):∀x c,X.env.cells.lookup x=some c->c≠X.env.locals:=fun x c e z=>by
 obtain⟨v,o,ho,hd⟩:=I.cell x c e;obtain⟨m,⟨o',es,ep,ku,sr,_⟩,_⟩:=I.loc;rw[z,ku] at ho;cases ho;rw[sr] at hd;cases hd
theorem Inv.gC(I:Inv X pins σ H s):s.heap.FunFrames X.base X.outer:=by
 have all:∀(l:List Env),(∀b∈ig l,b∈X.fs)->X.cS.heap.FunFrames X.base l->s.heap.FunFrames X.base l:=by
  intro l;induction l with
  | nil=>intro _ _;trivial
  | cons env r ih=>
   intro hs hl;obtain⟨hk,⟨L,o,hf,hn,ho,hd⟩,hr⟩:=hl;have hL:L∈X.fs:=hs L (by unfold ig;rw[List.filterMap_cons,hf];exact bj);obtain⟨sl,e⟩:=I.base.slot L o ho (I.ok.qd L hL) hL fun z=>I.ok.oA L z hL
   exact⟨hk,⟨L,_,hf,hn,e,hd⟩,ih (fun b hb=>hs b (by unfold ig;rw[List.filterMap_cons,hf];exact aA _ hb)) hr⟩
 exact all X.outer (fun _ hb=>hb) I.ok.gC
theorem Inv.stack(I:Inv X pins σ H s):s.heap.FunFrames X.base X.stack:=by
 rcases I.ok.yH with e | ⟨e,hf⟩
 ·rw[e];exact I.gC
 ·rw[e];obtain⟨m,hn,_⟩:=I.loc;refine .cons (by rw[I.ok.kind];decide) hf hn ?_ I.gC;exact Heap.get?_none_of_le (aT I.ok.sC I.ok.above)
theorem Inv.mR(I:Inv X pins σ H s):∀b∈ig X.stack,b∈X.env.locals::X.fs:=fun b hb=>by
 rcases I.ok.yH with e | ⟨e,hf⟩
 ·rw[e] at hb;exact aA _ hb
 ·rw[e] at hb;unfold ig at hb;rw[List.filterMap_cons,hf] at hb;exact hb
theorem Inv.nE(I:Inv X pins σ H s):∀b∈ig X.stack,H b=none:=fun b hb=>by
 rcases ah.mp (I.mR b hb) with e | hb
 ·rw[e];exact I.free
 ·obtain⟨_,o,ho,_⟩:=I.ok.gC.mem hb;exact I.base.free b o ho (I.ok.qd b hb) fun z=>I.ok.oA b z hb
theorem Inv.step{g':Array GenState}{t':Nat}{d':Drawn}{ch:List Addr}(I:Inv X pins σ H s)
  (o6:∀b∈ch,(b∈X.ex\/X.cS.heap.objs.size<=b)/\b≠X.env.locals/\(∀x c,X.env.cells.lookup x=some c->c≠b)/\∀p∈X.pn++pins,p.1≠b)
  (keep:∀b o,b≠X.env.locals->b∉X.fs->b∉ch->s.heap.get? b=some o->H b=none->h'.get? b=some o)
  (slot:∀b o,b≠X.env.locals->b∈X.fs->b∉ch->s.heap.get? b=some o->H b=none->∃sl,h'.get? b=some { o with slots:=sl }) (free:∀b o,b∉ch->s.heap.get? b=some o->H b=none->H' b=none)
  (there:∀b o,b∉ch->s.heap.get? b=some o->∃o',h'.get? b=some o')
  (il:∀b xs,H b=some (.tup xs)->H' b=some (.tup xs)) (hV:∀b o u,H b=some (.jL o u)->H' b=some (.jL o u)) (ip:∀b ps,H b=some (.tD ps)->∃more,H' b=some (.tD (ps++more)))
  (ns:∀m,s.heap.Ns X.env.locals m->h'.Ns X.env.locals m) (cB:iQ X.prog X.w H' h') (hg:AllBare g') :
  Inv X pins σ H' { s with heap:=h',gens:=g',drawn:=d',toks:=t' }:=by
 have JM:∀b o,X.cS.heap.get? b=some o->b≠X.env.locals:=fun b o e=>aD (aF (aq e) I.ok.above)
 have Bb:∀b o,X.cS.heap.get? b=some o->b∉X.ex->b∉ch:=fun b o e hx hb=>by
  rcases(o6 b hb).1 with z | z
  ·exact hx z
  ·exact absurd (aF (aq e) z) (Nat.lt_irrefl _)
 have cellK:∀x c,X.env.cells.lookup x=some c->∀v,s.heap.IsCell c v->h'.IsCell c v:=fun x c e v ⟨o,ho,hd⟩=>by
  have yR:c∉ch:=fun z=>(o6 c z).2.2.1 x c e rfl
  by_cases hc:c∈X.fs
  ·obtain⟨sl,q⟩:=slot c o (I.qh x c e) hc yR ho (I.eU x c e);exact⟨_,q,hd⟩
  ·exact⟨o,keep c o (I.qh x c e) hc yR ho (I.eU x c e),hd⟩
 refine⟨I.ok,I.os,hg,⟨fun b o e n hb hx=>?_,fun b o e n hb hx=>?_,fun b o e n hx=>?_,fun b o e hx=>?_,fun b xs e=>il b xs (I.base.il b xs e),fun b o xs e=>hV b o xs (I.base.hV b o xs e),fun b ps e=>?_⟩,?_,fun x c e=>?_,?_,fun x c e=>?_,fun p hp=>?_,cB,I.len⟩
 ·exact keep b o (JM b o e) hb (Bb b o e hx) (I.base.keep b o e n hb hx) (I.base.free b o e n hx)
 ·obtain⟨sl,e1⟩:=I.base.slot b o e n hb hx;obtain⟨DV,e2⟩:=slot b _ (JM b o e) hb (Bb b o e hx) e1 (I.base.free b o e n hx);exact⟨DV,e2⟩
 ·obtain⟨o',e1⟩:=I.base.there b o e hx;exact free b o' (Bb b o e hx) e1 (I.base.free b o e n hx)
 ·obtain⟨o',e1⟩:=I.base.there b o e hx;exact there b o' (Bb b o e hx) e1
 ·obtain⟨m1,e1⟩:=I.base.ip b ps e;obtain⟨m2,e2⟩:=ip b _ e1;exact⟨m1++m2,by rw[e2,Array.append_assoc]⟩
 ·obtain⟨m,hn,hl⟩:=I.loc;refine⟨m,ns m hn,fun i x v e1 e2 e3=>?_⟩;obtain⟨u,r,l⟩:=hl i x v e1 e2 e3;refine⟨u,r,?_⟩;rcases l with l | ⟨k,c,e,z⟩
  ·exact .inl l
  ·exact .inr ⟨k,c,e,cellK x c e _ z⟩
 ·obtain⟨v,z⟩:=I.cell x c e;exact⟨v,cellK x c e v z⟩
 ·obtain⟨m,⟨o,_,_,ho,_⟩,_⟩:=I.loc;exact free _ o (fun z=>(o6 _ z).2.1 rfl) ho I.free
 ·obtain⟨v,o,ho,hd⟩:=I.cell x c e;exact free c o (fun z=>(o6 c z).2.2.1 x c e rfl) ho (I.eU x c e)
 ·obtain⟨e,n,ne,nf,d⟩:=I.pin p hp;have yR:p.1∉ch:=fun z=>(o6 p.1 z).2.2.2 p hp rfl
  exact⟨keep p.1 p.2 ne nf yR e n,free p.1 p.2 yR e n,ne,nf,d⟩
theorem Inv.un{t':Nat}(I:Inv X pins σ H s)(u:Un X.fs [] H H' s.heap h')(cB:iQ X.prog X.w H' h'):Inv X pins σ H' { s with heap:=h',toks:=t' }:=by
 obtain⟨m,⟨o,es,ep,ho,r⟩,_⟩:=id I.loc;obtain⟨sl,hL⟩:=u.any ho I.free (by simp)
 exact I.step (g':=s.gens) (d':=s.drawn) (ch:=[]) (fun _ z=>nomatch z) (fun b o _ hb _ e n=>u.keep b o e n hb (by simp)) (fun b o _ hb _ e n=>u.slot b o e n hb (by simp)) (fun b o _ e n=>u.free b o e n (by simp)) (fun b o _ e=>u.there b o e (by simp)) u.il u.hV u.ip (fun m' hm=>by
  obtain⟨o',gO,sx,ku,r'⟩:=hm;rw[ho] at ku;cases ku;exact⟨_,gO,sx,hL,r'⟩) cB I.bare
theorem Inv.call{g':Array GenState}{t':Nat}{d':Drawn}{ch:List Addr}(I:Inv X pins σ H s)(u:Un (ig X.stack) ch H H' s.heap h')(cB:iQ X.prog X.w H' h')(hg:AllBare g')
  (o6:∀b∈ch,(b∈X.ex\/X.cS.heap.objs.size<=b)/\b≠X.env.locals/\(∀x c,X.env.cells.lookup x=some c->c≠b)/\∀p∈X.pn++pins,p.1≠b) :
  Inv X pins σ H' { s with heap:=h',gens:=g',drawn:=d',toks:=t' }:=by
 obtain⟨m,⟨o,es,ep,ho,r⟩,_⟩:=id I.loc;obtain⟨sl,hL⟩:=u.any ho I.free fun z=>(o6 _ z).2.1 rfl
 exact I.step (ch:=ch) o6 (fun b o hL hb hc e n=>u.keep b o e n (fun z=>(ah.mp (I.mR b z)).elim hL hb) hc) (fun b o _ _ hc e n=>u.any e n hc) (fun b o hc e n=>u.free b o e n hc) (fun b o hc e=>u.there b o e hc) u.il u.hV u.ip (fun m' hm=>by
  obtain⟨o',gO,sx,ku,r'⟩:=hm;rw[ho] at ku;cases ku;exact⟨_,gO,sx,hL,r'⟩) cB hg
theorem Inv.turned{t':Nat}{it:Addr}(I:Inv X pins σ H s)(k:∀b o,b≠it->s.heap.get? b=some o->h'.get? b=some o)(hn:H it=none)(hL:it≠X.env.locals)
  (h1:it∈X.ex\/X.cS.heap.objs.size<=it) (h2:∀x c,X.env.cells.lookup x=some c->c≠it) (h3:∀p∈X.pn++pins,p.1≠it):Inv X pins σ H { s with heap:=h',toks:=t' }:=by
 have tH:∀b u,H b=some u->b≠it:=fun b u e z=>by rw[z,hn] at e;cases e
 refine I.step (g':=s.gens) (d':=s.drawn) (ch:=[it]) (fun b hb=>?_) (fun b o _ _ hc e _=>k b o (fun z=>hc (by simp[z])) e) (fun b o _ _ hc e _=>⟨o.slots,k b o (fun z=>hc (by simp[z])) e⟩) (fun _ _ _ _ n=>n)
  (fun b o hc e=>⟨o,k b o (fun z=>hc (by simp[z])) e⟩) (fun _ _ e=>e) (fun _ _ _ e=>e) (fun b ps e=>⟨#[],by rw[e];simp⟩) (fun m hm=>?_) (fun b u e=>?_) I.bare
 ·have e:b=it:=by simpa using hb
  subst e;exact⟨h1,hL,h2,h3⟩
 ·obtain⟨o,es,ep,ho,r⟩:=hm;exact⟨o,es,ep,k _ o (Ne.symm hL) ho,r⟩
 ·refine(I.cB b u e).jq (fun c v hc q=>k c v ?_ q) (fun _ q=>q) fun _ _ q=>q
  rcases hc with z | z
  ·rw[z];exact tH b u e
  ·exact tH c _ z
theorem Inv.tok(I:Inv X pins σ H s)(t:Nat):Inv X pins σ H { s with toks:=t }:=I.un (h':=s.heap) (t':=t) Un.refl I.cB
theorem Inv.kept{t':Nat}(I:Inv X pins σ H s)(k:∀b u,s.heap.get? b=some u->h'.get? b=some u):Inv X pins σ H { s with heap:=h',toks:=t' }:=I.un (Un.kept k) (I.cB.kept k)
theorem Inv.laid{a:Addr}{o:HO}{t':Nat}(I:Inv X pins σ H s)(k:∀b u,s.heap.get? b=some u->h'.get? b=some u)(hp:s.heap.objs.size<=a)(new:dF X.prog X.w (upd H a o) h' a o) :
  Inv X pins σ (upd H a o) { s with heap:=h',toks:=t' }:=I.un (Un.laid k hp (I.cB.fresh hp)) (I.cB.laid k hp new)
theorem Inv.write{x e:Addr}{o:HO}{t':Nat}(I:Inv X pins σ H s)(mu:BB (H x))(he:e=x\/H e=some (.own x))(k:∀b u,b≠e->s.heap.get? b=some u->h'.get? b=some u)(wz:∃u,h'.get? e=some u)
  (new:dF X.prog X.w (upd H x o) h' x o):Inv X pins σ (upd H x o) { s with heap:=h',toks:=t' }:=I.un (Un.write mu he k wz) (I.cB.write mu he k wz new)
theorem Inv.nH{tG:List (Addr×Obj)}(I:Inv X pins σ H s)(h:∀p∈tG,s.heap.get? p.1=some p.2/\H p.1=none/\p.1≠X.env.locals/\p.1∉X.fs/\∀v,p.2.data≠.cell v):Inv X tG σ H s:=
 ⟨I.ok,I.os,I.bare,I.base,I.loc,I.cell,I.free,I.eU,fun p hp=>(av.mp hp).elim (fun z=>I.pin p (List.mem_append_left _ z)) (h p),I.cB,I.len⟩
theorem CT{N:List Str}(hN:N.Nodup){i j:Nat}{x:Str}(a:N[i]?=some x)(b:N[j]?=some x):i=j:=by
 obtain⟨h1,e1⟩:=aS.mp a;obtain⟨h2,e2⟩:=aS.mp b;exact(List.getElem_inj hN).mp (e1.trans e2.symm)
theorem ID{M:Model}{A:Around}{E:Value->Shared->Prop}{i:Nat}{x:Str}{v:V}{u:Value}{Q:Unit->Shared->Prop}(I:Inv X pins σ H s)(hN:X.N.Nodup)(hi:X.N[i]?=some x)(hx:Loc X.env.scope x)(r:RelV v u)
  (h:∀s',Inv X pins (σ.set i (some v)) H s'->(∃a,Heap.SameBut a s.heap s'.heap/\(a=X.env.locals\/X.env.cells.lookup x=some a))->Q () s') (hf:X.fn x=true\/X.env.scope.names.lookup x=some .local:=by first | exact .inl rfl | exact .inr rfl | assumption):wpAny M A (storeName X.env x u) Q E s:=by
 obtain⟨m,hn,hl⟩:=id I.loc;have uY:(X.env.scope.kind==.class||(X.env.scope.kind==.module&&X.env.locals != X.env.globals))=false:=by rw[I.ok.kind];rfl
 have zg:i<σ.length:=by rw[I.len];exact(aS.mp hi).1
 have qh:=I.qh;have tracked:∀{a:Addr} {h':Heap},(∃o,s.heap.get? a=some o/\H a=none)->Heap.SameBut a s.heap h'->iQ X.prog X.w H h':=fun{a h'} ha hs b ob e=>by
  obtain⟨_,_,eT⟩:=ha;refine(I.cB b ob e).jq (fun c w' hc q=>(hs.2 c ?_).trans q) (fun _ q=>q) fun _ _ q=>q
  rintro rfl;rcases hc with rfl | hc
  ·rw[eT] at e;cases e
  ·rw[eT] at hc;cases hc
 rcases hx with hk | hk
 ·refine wpAny_storeName_local hk hn (fun h' wx hs=>?_) uY;obtain⟨oL,_,_,pT,_⟩:=id hn;refine h _ ⟨I.ok,I.os,I.bare,⟨fun b o e n hb hx=>?_,fun b o e n hb hx=>?_,I.base.free,fun b o e hx=>?_,I.base.il,I.base.hV,I.base.ip⟩,⟨_,wx,fun j y v' e1 e2 e3=>?_⟩,fun y c e=>?_,I.free,I.eU,fun p hp=>?_,tracked ⟨oL,pT,I.free⟩ hs,by simpa using I.len⟩ ⟨_,hs,.inl rfl⟩
  ·exact(hs.2 b (aD (aF (aq e) I.ok.above))).trans (I.base.keep b o e n hb hx)
  ·obtain⟨sl,e1⟩:=I.base.slot b o e n hb hx;exact⟨sl,(hs.2 b (aD (aF (aq e) I.ok.above))).trans e1⟩
  ·obtain⟨o',e1⟩:=I.base.there b o e hx;exact⟨o',(hs.2 b (aD (aF (aq e) I.ok.above))).trans e1⟩
  ·by_cases hj:j=i
   ·subst hj;rw[hi] at e1;cases e1;rw[List.getElem?_set_self zg] at e2;cases e2;exact⟨u,r,.inl ⟨hk,by simp⟩⟩
   ·rw[List.getElem?_set_ne (Ne.symm hj)] at e2;obtain⟨u',r',q⟩:=hl j y v' e1 e2 e3;refine⟨u',r',?_⟩;rcases q with⟨k,e⟩ | ⟨k,c,e,z⟩
    ·refine .inl ⟨k,?_⟩;have:y≠x:=fun e=>hj (CT hN e1 (e▸hi))
     simp[this,e]
    ·exact .inr ⟨k,c,e,z.sameBut hs (qh y c e)⟩
  ·obtain⟨w',z⟩:=I.cell y c e;exact⟨w',z.sameBut hs (qh y c e)⟩
  ·obtain⟨e,n,ne,nf,d⟩:=I.pin p hp;exact⟨(hs.2 p.1 ne).trans e,n,ne,nf,d⟩
 ·have tS:X.fn x=true:=by
   rcases hf with z | z
   ·exact z
   ·rw[z] at hk;cases hk
  obtain⟨c,hc⟩:=I.ok.has x (.inl hk);obtain⟨w',z⟩:=I.cell x c hc;refine wpAny_storeName_cell I.ok.kind hk hc z (fun h' pY hs=>?_);obtain⟨oc,rZ,EE⟩:=id z;refine h { s with heap:=h' } ⟨I.ok,I.os,I.bare,⟨fun b o e n hb hx=>?_,fun b o e n hb hx=>?_,I.base.free,fun b o e hx=>?_,I.base.il,I.base.hV,I.base.ip⟩,⟨m,hn.sameBut hs (Ne.symm (qh x c hc)),fun j y v' e1 e2 e3=>?_⟩,fun y c' e=>?_,I.free,I.eU,fun p hp=>?_,tracked ⟨oc,rZ,I.eU x c hc⟩ hs,by simpa using I.len⟩ ⟨c,hs,.inr hc⟩
  ·exact(hs.2 b (aD (aF (aq e) (I.ok.cab x c tS hc)))).trans (I.base.keep b o e n hb hx)
  ·obtain⟨sl,e1⟩:=I.base.slot b o e n hb hx;exact⟨sl,(hs.2 b (aD (aF (aq e) (I.ok.cab x c tS hc)))).trans e1⟩
  ·obtain⟨o',e1⟩:=I.base.there b o e hx;exact⟨o',(hs.2 b (aD (aF (aq e) (I.ok.cab x c tS hc)))).trans e1⟩
  ·by_cases hj:j=i
   ·subst hj;rw[hi] at e1;cases e1;rw[List.getElem?_set_self zg] at e2;cases e2;exact⟨u,r,.inr ⟨.inl hk,c,hc,pY⟩⟩
   ·rw[List.getElem?_set_ne (Ne.symm hj)] at e2;obtain⟨u',r',q⟩:=hl j y v' e1 e2 e3;refine⟨u',r',?_⟩;rcases q with q | ⟨k,c',e,z'⟩
    ·exact .inl q
    ·refine .inr ⟨k,c',e,z'.sameBut hs ?_⟩;rintro rfl;exact hj (CT hN e1 (I.ok.inj _ _ _ e hc▸hi))
  ·by_cases Kk:c'=c
   ·subst Kk;exact⟨_,pY⟩
   ·obtain⟨w2,z2⟩:=I.cell y c' e;exact⟨w2,z2.sameBut hs Kk⟩
  ·obtain⟨e,n,ne,nf,d⟩:=I.pin p hp;refine⟨(hs.2 p.1 ?_).trans e,n,ne,nf,d⟩;intro q;rw[q,rZ] at e;have q':oc=p.2:=Option.some.inj e;exact d w' (by rw[<-q'];exact EE)
theorem CS{M:Model}{A:Around}{E:Value->Shared->Prop}{i:Nat}{x:Str}{v:V}{u:Value}{Q:Unit->Shared->Prop}(I:Inv X pins σ H s)(hN:X.N.Nodup)(hi:X.N[i]?=some x)(hx:Loc X.env.scope x)(r:RelV v u)
  (h:∀s',Inv X pins (σ.set i (some v)) H s'->Q () s') (hf:X.fn x=true\/X.env.scope.names.lookup x=some .local:=by first | exact .inl rfl | exact .inr rfl | assumption):wpAny M A (storeName X.env x u) Q E s:=
 ID I hN hi hx r (fun s' I' _=>h s' I') hf
theorem Inv.zF{s':Shared}{ch:List Addr}(I:Inv X pins σ H s)(ho:s'.os=s.os)(u:Un (ig X.stack) ch H H' s.heap s'.heap)(cB:iQ X.prog X.w H' s'.heap)(hg:AllBare s'.gens)
  (o6:∀b∈ch,(b∈X.ex\/X.cS.heap.objs.size<=b)/\b≠X.env.locals/\(∀x c,X.env.cells.lookup x=some c->c≠b)/\∀p∈X.pn++pins,p.1≠b):Inv X pins σ H' s':=by
 obtain⟨h',g',d',t',o'⟩:=s';have e:o'=s.os:=ho;subst e;exact I.call (g':=g') (t':=t') (d':=d') u cB hg o6
end
noncomputable abbrev XK:=Value->Option Addr->Hp->Prop
noncomputable abbrev St:=List (Option V)
noncomputable abbrev VK:=V->Hp->Prop
noncomputable abbrev TE:=St->Hp->VK->Prop
noncomputable abbrev TT:=St->Hp->(Bool->Hp->Prop)->Prop
noncomputable abbrev TA:=St->Hp->(List V->Hp->Prop)->Prop
structure Ends where
 nx:St->Hp->Prop
 rt:VK
 bk:St->Hp->Prop:=fun _ _=>False
 ct:St->Hp->Prop:=fun _ _=>False
noncomputable abbrev TS:=Ends->St->Hp->Prop
def EP(X:Cx)(pins:List (Addr×Obj))(σ:St)(Q:VK)(u:Value)(s':Shared):Prop:=∃v H',Inv X pins σ H' s'/\RelV v u/\Q v H'
def TP(X:Cx)(pins:List (Addr×Obj))(σ:St)(Q:Bool->Hp->Prop)(b:Bool)(s':Shared):Prop:=∃H',Inv X pins σ H' s'/\Q b H'
def AP(X:Cx)(pins:List (Addr×Obj))(σ:St)(Q:List V->Hp->Prop)(us:List Value)(s':Shared):Prop:=∃vs H',Inv X pins σ H' s'/\Vals vs us/\Q vs H'
def SP(X:Cx)(pins:List (Addr×Obj))(D:Ends)(f:Flow)(s':Shared):Prop:=
 match f with
 | .next=>∃cc H',Inv X pins cc H' s'/\D.nx cc H'
 | .brk=>∃cc H',Inv X pins cc H' s'/\D.bk cc H'
 | .cont=>∃cc H',Inv X pins cc H' s'/\D.ct cc H'
 | .ret u=>∃v cc H',Inv X pins cc H' s'/\RelV v u/\D.rt v H'
def PE(X:Cx)(e:Expr)(t:TE):Prop:=
 ∀(pins:List (Addr×Obj)) (s:Shared) (σ:St) (H:Hp) (Q:VK),Inv X pins σ H s->t σ H Q->wpAny (model X.prog X.w) X.A (eval e X.env) (EP X pins σ Q) X.xe s
def PT(X:Cx)(e:Expr)(t:TT):Prop:=
 ∀(pins:List (Addr×Obj)) (s:Shared) (σ:St) (H:Hp) (Q:Bool->Hp->Prop),Inv X pins σ H s->t σ H Q->wpAny (model X.prog X.w) X.A (isTrue e X.env (eval e X.env)) (TP X pins σ Q) X.xe s
def PW(X:Cx)(e:Expr)(t:TT):Prop:=
 ∀(whole:Sem Value) (pins:List (Addr×Obj)) (s:Shared) (σ:St) (H:Hp) (Q:Bool->Hp->Prop),Inv X pins σ H s->t σ H Q->wpAny (model X.prog X.w) X.A (isTrue e X.env whole) (TP X pins σ Q) X.xe s
theorem PW.pt{X:Cx}{e:Expr}{t:TT}(h:PW X e t):PT X e t:=h _
def PA(X:Cx)(es:List Expr)(t:TA):Prop:=
 ∀(pos:Pos) (pins:List (Addr×Obj)) (s:Shared) (σ:St) (H:Hp) (Q:List V->Hp->Prop),Inv X pins σ H s->t σ H Q->wpAny (model X.prog X.w) X.A (spliced (backTo pos (starEach es X.env))) (AP X pins σ Q) X.xe s
def PS(X:Cx)(st:Stmt)(t:TS):Prop:=
 ∀(pins:List (Addr×Obj)) (s:Shared) (σ:St) (H:Hp) (D:Ends),Inv X pins σ H s->t D σ H->wpAny (model X.prog X.w) X.A (exec st X.env) (SP X pins D) X.xe s
def la(X:Cx)(st:List Stmt)(t:TS):Prop:=
 ∀(pins:List (Addr×Obj)) (s:Shared) (σ:St) (H:Hp) (D:Ends),Inv X pins σ H s->t D σ H->wpAny (model X.prog X.w) X.A (execs st X.env) (SP X pins D) X.xe s
theorem cK{α:Type}{t:Sem α}{Q Q':α->Shared->Prop}{M:Model}{A:Around}{E:Value->Shared->Prop}{s:Shared}(h:wpAny M A t Q E s)(hQ:∀a s,Q a s->Q' a s):wpAny M A t Q' E s:=bc h hQ fun _ _ x=>x
end L2
namespace L2
open PySem PySem.Spec PyProof.Rows
section
variable {X:Cx}
theorem bin{a b:Expr}{ta tb:TE}(ha:PE X a ta)(hb:PE X b tb){pins:List (Addr×Obj)}{s:Shared}{σ:St}{H:Hp}{R:V->V->Hp->Prop}(I:Inv X pins σ H s)(h:ta σ H fun x H1=>tb σ H1 fun y H2=>R x y H2)
  {α:Type} {Q:α->Shared->Prop} {f:Value->Value->Sem α}
  (hf:∀v u s2 x y H2,Inv X pins σ H2 s2->RelV x v->RelV y u->R x y H2->wpAny (model X.prog X.w) X.A (f v u) Q X.xe s2) :
  wpAny (model X.prog X.w) X.A (eval a X.env) (fun v cw=>wpAny (model X.prog X.w) X.A (eval b X.env) (fun u jn=>wpAny (model X.prog X.w) X.A (f v u) Q X.xe jn) X.xe cw) X.xe s:=by
 refine cK (ha pins s σ H _ I h) fun v s1 bV=>?_
 obtain⟨x,H1,I1,r1,q1⟩:=bV;refine cK (hb pins s1 σ H1 _ I1 q1) fun u s2 bV=>?_
 obtain⟨y,H2,I2,r2,q2⟩:=bV;exact hf v u s2 x y H2 I2 r1 r2 q2
def Ls(i:Nat):TE:=fun σ H Q=>∃v,σ[i]?=some (some v)/\Q v H
def tC(v:V):TE:=fun _ H Q=>Q v H
theorem oR{i:Nat}{x:Str}{pos:Pos}(hN:X.N[i]?=some x)(hv:l8 X.env.scope x)(hd:(x==("__debug__":Str))=false:=by decide)(iO:(x==("__classdict__":Str))=false:=by decide):PE X (.Name x pos) (Ls i):=by
 intro pins s σ H Q I h;obtain⟨v,e,h⟩:=h;obtain⟨m,hn,hl⟩:=I.loc;obtain⟨u,r,l⟩:=hl i x v hN e hv;have fin:EP X pins σ Q u s:=⟨v,H,I,r,h⟩
 rcases l with⟨hk,hm⟩ | ⟨hk,c,hc,tT⟩
 ·exact wpAny_Name (wpAny_loadName_local I.ok.kind hk hn hm fin) hd
 ·rcases hk with hk | hk
  ·exact wpAny_Name (wpAny_loadName_cell I.ok.kind hk hc tT fin) hd
  ·exact wpAny_Name (wpAny_loadName_free I.ok.kind hk hc tT fin iO) hd
theorem ML{i j pos}:PE X (.Constant (.int i) j pos) (tC (.int i)):=fun _ _ _ H _ I h=>wpAny_Constant_int ⟨.int i,H,I.tok _,⟨_,rfl⟩,h⟩
theorem Mh{b j pos}:PE X (.Constant (.bool b) j pos) (tC (.bl b)):=fun _ _ _ H _ I h=>Constant_bool ⟨.bl b,H,I,rfl,h⟩
theorem MK{j pos}:PE X (.Constant .none j pos) (tC .non):=fun _ _ _ H _ I h=>Constant_none ⟨.non,H,I,rfl,h⟩
theorem Gz{x j pos}:PE X (.Constant (.str x) j pos) (tC (.str x)):=fun _ _ _ H _ I h=>Calls.Constant_str ⟨.str x,H,I.tok _,⟨_,rfl⟩,h⟩
def Gl(X:Cx)(x:Str):Prop:=X.env.kindOf x=some .globalImplicit
theorem um{E:Value->Shared->Prop}{pins:List (Addr×Obj)}{s:Shared}{σ:St}{H:Hp}{x:Str}{u:Value}{pos:Pos}{Q:Value->Shared->Prop}(I:Inv X pins σ H s)(hg:Gl X x)(hm:X.mg x=some u)(h:Q u s)
  (hd:(x==("__debug__":Str))=false:=by decide):wpAny (model X.prog X.w) X.A (eval (.Name x pos) X.env) Q E s:=
 Calls.Name_function_global I.ok.kind hg (Calls.loadGlobal_global (by rw[I.ok.glob];exact I.mod.glob.keeps I.bk) hm h) hd
theorem uj{E:Value->Shared->Prop}{pins:List (Addr×Obj)}{s:Shared}{σ:St}{H:Hp}{x:Str}{u:Value}{pos:Pos}{Q:Value->Shared->Prop}(I:Inv X pins σ H s)(hg:Gl X x)(hm:X.mg x=none)(hv:bootBuiltins x=some u)(h:Q u s)
  (hn:x≠"__name__":=by decide) (hd:(x==("__debug__":Str))=false:=by decide):wpAny (model X.prog X.w) X.A (eval (.Name x pos) X.env) Q E s:=by
 obtain⟨mb,h1,h2⟩:=I.mod.blt;exact Calls.Name_function_global I.ok.kind hg (Calls.loadGlobal_builtin (by rw[I.ok.glob];exact I.mod.glob.keeps I.bk) hm (by rw[I.ok.blt];exact h1.keeps I.bk) ((h2 x hn).trans hv) h) hd
theorem CF{x:Str}{v:V}{u:Value}{pos:Pos}(hg:Gl X x)(hm:X.mg x=some u)(r:RelV v u)(hd:(x==("__debug__":Str))=false:=by decide):PE X (.Name x pos) (tC v):=
 fun _ _ _ H _ I h=>um I hg hm ⟨v,H,I,r,h⟩ hd
theorem Oq{x:Str}{v:V}{u:Value}{pos:Pos}(hg:Gl X x)(hm:X.mg x=none)(hv:bootBuiltins x=some u)(r:RelV v u)(hn:x≠"__name__":=by decide)(hd:(x==("__debug__":Str))=false:=by decide):PE X (.Name x pos) (tC v):=
 fun _ _ _ H _ I h=>uj I hg hm hv ⟨v,H,I,r,h⟩ hn hd
variable {a b:Expr} {ta tb:TE} {pos:Pos}
def PC(X:Cx)(op:CmpOp)(a b:Expr)(t:TE):Prop:=
 ∀(pins:List (Addr×Obj)) (s:Shared) (σ:St) (H:Hp) (Q:VK),Inv X pins σ H s->t σ H Q->
  wpAny (model X.prog X.w) X.A (eval a X.env) (fun v cw=>wpAny (model X.prog X.w) X.A (eval b X.env) (fun u jn=>wpAny (model X.prog X.w) X.A (compareOp op v u) (EP X pins σ Q) X.xe jn) X.xe cw) X.xe s
theorem OK(b:Expr){op:CmpOp}(h:op≠.In)(h2:op≠.NotIn):behindInMarks op b=false:=by
 have e1:(op==CmpOp.In)=false:=by cases op<;>first | rfl | exact absurd rfl h
 have e2:(op==CmpOp.NotIn)=false:=by cases op<;>first | rfl | exact absurd rfl h2
 cases b<;>simp[behindInMarks,e1,e2]
def tB(t:TE):TT:=fun σ H Q=>t σ H fun x H1=>∃c,x=.bl c/\Q c H1
theorem VJ{op:CmpOp}{t:TE}(h:PC X op a b t)(h1:behindInMarks op b=false:=by first | exact OK _ (by decide) (by decide) | rfl):PT X (.Compare a [op] [b] pos) (tB t):=by
 intro pins s σ H Q I hw;refine wpAny_isTrue_Compare1 (cK (h pins s σ H _ I hw) fun v s1 h1=>cK h1 fun u s2 h2=>cK h2 fun c s3 bV=>?_) h1;obtain⟨x,H1,I1,r1,q1⟩:=bV;obtain⟨d,rfl,q⟩:=q1;cases r1;exact wpAny_truthy_bool ⟨H1,I1,q⟩
theorem MJ{e:Expr}{t:TE}(h:PE X e t)(he:∀whole,isTrue e X.env whole=(do let v <-whole;standAt e.pos;holding [v] (truthy v)):=by intro _;rfl):PT X e (tB t):=by
 intro pins s σ H Q I hw;refine isTrue_plain (cK (h pins s σ H _ I hw) fun v s1 bV=>?_) (he _);obtain⟨x,H1,I1,r1,q1⟩:=bV;obtain⟨d,rfl,q⟩:=q1;cases r1;exact wpAny_truthy_bool ⟨H1,I1,q⟩
variable {tA A2:TT} {rest:List Expr}
def Lr(t u:TT):TT:=fun σ H Q=>t σ H fun c H1=>if c=true then u σ H1 Q else Q false H1
def Tu(t u:TT):TT:=fun σ H Q=>t σ H fun c H1=>if c=true then Q true H1 else u σ H1 Q
def Lq(t:TT):TT:=fun σ H Q=>t σ H fun c H1=>Q (!c) H1
theorem Oo(ha:PT X a tA):PW X (.BoolOp .And [a] pos) tA:=by
 intro wh pins s σ H Q I h;refine isTrue_and (cK (ha pins s σ H Q I h) fun c s1 e=>?_);cases c with
 | true=>exact isTrue_and_nil e
 | false=>exact e
theorem MI(ha:PT X a tA):PW X (.BoolOp .Or [a] pos) tA:=by
 intro wh pins s σ H Q I h;refine isTrue_or (cK (ha pins s σ H Q I h) fun c s1 e=>?_);cases c with
 | false=>exact isTrue_or_nil e
 | true=>exact e
theorem MH(ha:PT X a tA)(hb:PW X (.BoolOp .And (b::rest) pos) A2):PW X (.BoolOp .And (a::b::rest) pos) (Lr tA A2):=by
 intro wh pins s σ H Q I h;refine isTrue_and (cK (ha pins s σ H _ I h) fun c s1 bV=>?_);obtain⟨H1,I1,q1⟩:=bV;cases c with
 | true=>exact hb wh pins s1 σ H1 Q I1 q1
 | false=>exact⟨H1,I1,q1⟩
theorem Mg(ha:PT X a tA)(hb:PW X (.BoolOp .Or (b::rest) pos) A2):PW X (.BoolOp .Or (a::b::rest) pos) (Tu tA A2):=by
 intro wh pins s σ H Q I h;refine isTrue_or (cK (ha pins s σ H _ I h) fun c s1 bV=>?_);obtain⟨H1,I1,q1⟩:=bV;cases c with
 | true=>exact⟨H1,I1,q1⟩
 | false=>exact hb wh pins s1 σ H1 Q I1 q1
theorem MG(ha:PT X a tA):PT X (.UnaryOp .Not a pos) (Lq tA):=by
 intro pins s σ H Q I h;exact isTrue_not (ha pins s σ H (fun c H1=>Q (!c) H1) I h)
def Mf(ta tb:TE):TE:=fun σ H Q=>ta σ H fun x H1=>∃c,x=.bl c/\if c=true then tb σ H1 Q else Q (.bl false) H1
def Lp(ta tb:TE):TE:=fun σ H Q=>ta σ H fun x H1=>∃c,x=.bl c/\if c=true then Q (.bl true) H1 else tb σ H1 Q
theorem MF{op}{t:TE}(h:PE X a t):PE X (.BoolOp op [a] pos) t:=fun pins s σ H Q I hw=>BoolOp_one (h pins s σ H Q I hw)
theorem ME(ha:PE X a ta)(hb:PE X (.BoolOp .And (b::rest) pos) tb):PE X (.BoolOp .And (a::b::rest) pos) (Mf ta tb):=by
 intro pins s σ H Q I h;refine BoolOp_and (cK (ha pins s σ H _ I h) fun v s1 bV=>?_);obtain⟨x,H1,I1,r1,q1⟩:=bV;obtain⟨c,rfl,q1⟩:=q1;cases r1;refine wpAny_truthy_bool ?_;cases c with
 | true=>exact hb pins s1 σ H1 Q I1 q1
 | false=>exact⟨.bl false,H1,I1,rfl,q1⟩
theorem Me(ha:PE X a ta)(hb:PE X (.BoolOp .Or (b::rest) pos) tb):PE X (.BoolOp .Or (a::b::rest) pos) (Lp ta tb):=by
 intro pins s σ H Q I h;refine BoolOp_or (cK (ha pins s σ H _ I h) fun v s1 bV=>?_);obtain⟨x,H1,I1,r1,q1⟩:=bV;obtain⟨c,rfl,q1⟩:=q1;cases r1;refine wpAny_truthy_bool ?_;cases c with
 | false=>exact hb pins s1 σ H1 Q I1 q1
 | true=>exact⟨.bl true,H1,I1,rfl,q1⟩
def Tv(t:TT)(ta tb:TE):TE:=fun σ H Q=>t σ H fun c H1=>if c=true then ta σ H1 Q else tb σ H1 Q
theorem OJ{c:Expr}(hc:PT X c tA)(ha:PE X a ta)(hb:PE X b tb):PE X (.IfExp c a b pos) (Tv tA ta tb):=by
 intro pins s σ H Q I h;refine wpAny_IfExp (cK (hc pins s σ H _ I h) fun d s1 bV=>?_);obtain⟨H1,I1,q1⟩:=bV;cases d with
 | true=>exact ha pins s1 σ H1 Q I1 q1
 | false=>exact hb pins s1 σ H1 Q I1 q1
end
end L2
namespace L2
open PySem PySem.Spec PyProof.Rows
def gc(K:PySem.W.Frag)(H:Hp)(a:Addr)(xs:List V):Prop:=
 Rd H a (.lst xs)\/
  ∃(o:Obj) (its:Array Value) (n:Nat),K.lookup a=some o/\o.cls=.type "list"/\o.dict=none/\o.data=.seq its n/\its.size<=sizeLine/\Vals xs its.toList
def fH(K:PySem.W.Frag)(H:Hp)(a:Addr)(xs:List V):Prop:=
 Rd H a (.tup xs)\/
  ∃(o:Obj) (its:Array Value) (n:Nat),K.lookup a=some o/\o.cls=.type "tuple"/\o.data=.seq its n/\its.size<=sizeLine/\Vals xs its.toList
noncomputable def Lo:Value->Option V
 | .none=>some .non
 | .bool b=>some (.bl b)
 | .int i _=>some (.int i)
 | .str x _=>some (.str x)
 | .bytes b _=>some (.Bu b)
 | .float b _=>some (.Bs b)
 | .ref a=>some (.ref a)
 | .type n=>some (.ty n)
 | _=>none
theorem RelV.abs{x:V}{u:Value}(r:RelV x u):Lo u=some x:=by
 cases x with
 | non=>cases r;rfl
 | bl _=>cases r;rfl
 | int _=>obtain⟨t,rfl⟩:=r;rfl
 | str _=>obtain⟨t,rfl⟩:=r;rfl
 | Bu _=>obtain⟨t,rfl⟩:=r;rfl
 | Bs _=>obtain⟨t,rfl⟩:=r;rfl
 | ref _=>cases r;rfl
 | ty _=>cases r;rfl
theorem RelV.inj{x y:V}{u:Value}(r:RelV x u)(q:RelV y u):x=y:=Option.some.inj (r.abs.symm.trans q.abs)
theorem Vals.inj{xs ys:List V}{us:List Value}(h:Vals xs us)(k:Vals ys us):xs=ys:=by
 induction h generalizing ys with
 | nil=>cases k;rfl
 | cons r t ih=>
  cases k with
  | cons r' t'=>rw[r.inj r',ih t']
section
variable {X:Cx} {pins:List (Addr×Obj)} {σ:St} {H:Hp} {s:Shared} {a:Addr} {xs ys:List V}
theorem gc.of{K:PySem.W.Frag}(h:H a=some (.lst xs)):gc K H a xs:=.inl (.inl h)
theorem fH.of{K:PySem.W.Frag}(h:H a=some (.tup xs)):fH K H a xs:=.inl (.inl h)
theorem Inv.list(I:Inv X pins σ H s)(h:gc X.K H a xs):∃its:List Value,Vals xs its/\PlainL s.heap a its.toArray/\xs.length<=sizeLine:=by
 rcases h with h | ⟨o,its,n,hk,hc,hd,hs,hz,r⟩
 ·obtain⟨z,its,n,r,e⟩:=h.ok I.cB;exact⟨its,r,⟨_,n,e,rfl,rfl,rfl⟩,z⟩
 ·refine⟨its.toList,r,⟨o,n,I.i4 a o hk,hc,hd,by simpa using hs⟩,?_⟩;have e:=r.length;simp only[aG] at e;omega
theorem Inv.tuple(I:Inv X pins σ H s)(h:fH X.K H a xs):∃its:List Value,Vals xs its/\IsTup s.heap a its.toArray/\xs.length<=sizeLine:=by
 rcases h with h | ⟨o,its,n,hk,hc,hs,hz,r⟩
 ·obtain⟨z,its,r,p⟩:=h.ok I.cB;exact⟨its,r,p,z⟩
 ·refine⟨its.toList,r,⟨o,I.i4 a o hk,hc,n,by simpa using hs⟩,?_⟩;have e:=r.length;simp only[aG] at e;omega
theorem Inv.jH(I:Inv X pins σ H s)(h:gc X.K H a xs)(h':gc X.K H a ys):xs=ys:=by
 obtain⟨its,r,⟨o,n,e,_,_,d⟩,_⟩:=I.list h;obtain⟨its',r',⟨o',n',e',_,_,d'⟩,_⟩:=I.list h';rw[e] at e';cases e';rw[d] at d';injection d' with d1 _
 have:its=its':=by simpa using congrArg Array.toList d1
 subst this;exact r.inj r'
theorem Inv.kL(I:Inv X pins σ H s)(h:fH X.K H a xs)(h':fH X.K H a ys):xs=ys:=by
 obtain⟨its,r,⟨o,e,_,n,d⟩,_⟩:=I.tuple h;obtain⟨its',r',⟨o',e',_,n',d'⟩,_⟩:=I.tuple h';rw[e] at e';cases e';rw[d] at d';injection d' with d1 _
 have:its=its':=by simpa using congrArg Array.toList d1
 subst this;exact r.inj r'
end
noncomputable abbrev Cx.ki(X:Cx)(E:Value->Shared->Prop):Cx:={ X with xe:=E }
noncomputable abbrev Cx.kN(X:Cx):Cx:=X.ki fun _ _=>False
theorem Cx.Ok.ki{X:Cx}(ok:X.Ok)(E:Value->Shared->Prop):(X.ki E).Ok:=
 ⟨ok.mod,ok.kind,ok.glob,ok.blt,ok.above,ok.inj,ok.has,ok.cab,ok.hd,ok.frames,ok.yH,ok.exf,ok.bs,ok.sC,ok.om,ok.oA,ok.gC,ok.qd⟩
theorem Cx.Ok.gE{X:Cx}{E:Value->Shared->Prop}(ok:(X.ki E).Ok):X.Ok:=
 ⟨ok.mod,ok.kind,ok.glob,ok.blt,ok.above,ok.inj,ok.has,ok.cab,ok.hd,ok.frames,ok.yH,ok.exf,ok.bs,ok.sC,ok.om,ok.oA,ok.gC,ok.qd⟩
section
variable {X:Cx} {pins:List (Addr×Obj)} {σ:St} {H:Hp} {s:Shared} {E:Value->Shared->Prop}
theorem Inv.ki(I:Inv X pins σ H s)(E:Value->Shared->Prop):Inv (X.ki E) pins σ H s:=⟨I.ok.ki E,I.os,I.bare,I.base,I.loc,I.cell,I.free,I.eU,I.pin,I.cB,I.len⟩
theorem Inv.gE(I:Inv (X.ki E) pins σ H s):Inv X pins σ H s:=⟨I.ok.gE,I.os,I.bare,I.base,I.loc,I.cell,I.free,I.eU,I.pin,I.cB,I.len⟩
theorem SP.gE{D:Ends}{f:Flow}{s':Shared}(h:SP (X.ki E) pins D f s'):SP X pins D f s':=by
 cases f with
 | next=>obtain⟨cc,H',I,q⟩:=h;exact⟨cc,H',I.gE,q⟩
 | brk=>obtain⟨cc,H',I,q⟩:=h;exact⟨cc,H',I.gE,q⟩
 | cont=>obtain⟨cc,H',I,q⟩:=h;exact⟨cc,H',I.gE,q⟩
 | ret u=>obtain⟨v,cc,H',I,r,q⟩:=h;exact⟨v,cc,H',I.gE,r,q⟩
theorem la.kN{st:List Stmt}{t:TS}(h:la X.kN st t):la X st t:=fun pins s σ H D I hw=>
 bc (h pins s σ H D (I.ki _) hw) (fun _ _ q=>q.gE) fun _ _ z=>False.elim z
end
section
variable {X:Cx} {st:Stmt} {rest:List Stmt} {t u:TS} {e:Expr} {te:TE} {pos:Pos}
def Md:TS:=fun D σ H=>D.nx σ H
def Ln(t u:TS):TS:=fun D σ H=>t { D with nx:=u D } σ H
theorem Hr:la X [] Md:=fun _ _ σ H _ I h=>wpAny_execs_nil ⟨σ,H,I,h⟩
theorem xN(h1:PS X st t)(h2:la X rest u):la X (st::rest) (Ln t u):=by
 intro pins s σ H D I h;refine wpAny_execs_cons (cK (h1 pins s σ H { D with nx:=u D } I h) fun f s1 q=>?_);cases f with
 | next=>
  obtain⟨cc,H',I',q⟩:=q;exact h2 pins s1 cc H' D I' q
 | ret v=>exact q
 | brk=>exact q
 | cont=>exact q
theorem Ar(h1:PS X st t):la X [st] t:=by
 intro pins s σ H D I h;refine wpAny_execs_cons (cK (h1 pins s σ H D I h) fun f s1 q=>?_);cases f with
 | next=>exact wpAny_execs_nil q
 | ret v=>exact q
 | brk=>exact q
 | cont=>exact q
theorem Inv.quiet{pins:List (Addr×Obj)}{σ:St}{H:Hp}{s:Shared}(I:Inv X pins σ H s):interactive X.env=false:=by simp[interactive,I.ok.kind]
def Mc(te:TE):TS:=fun D σ H=>te σ H fun _ H1=>D.nx σ H1
theorem Aq(he:PE X e te)(hs:swapsWith e none pos.line X.env=pure false:=by rfl):PS X (.Expr e pos) (Mc te):=by
 intro pins s σ H D I h;exact wpAny_Expr_any (cK (he pins s σ H _ I h) fun v s1 bV=>by obtain⟨x,H1,I1,r1,q1⟩:=bV;exact⟨σ,H1,I1,q1⟩) I.quiet hs
def Lm(te:TE):TS:=fun D σ H=>te σ H D.rt
theorem Ae(he:PE X e te):PS X (.Return (some e) pos) (Lm te):=by
 intro pins s σ H D I h;exact wpAny_Return_some (cK (he pins s σ H _ I h) fun v s1 bV=>by obtain⟨x,H1,I1,r1,q1⟩:=bV;exact⟨x,σ,H1,I1,r1,q1⟩)
def Ll(c:TT)(t u:TS):TS:=fun D σ H=>c σ H fun b H1=>if b=true then t D σ H1 else u D σ H1
theorem B2{c:Expr}{a b:List Stmt}{tc:TT}(hc:PT X c tc)(ha:la X a t)(hb:la X b u):PS X (.If c a b pos) (Ll tc t u):=by
 intro pins s σ H D I h;refine wpAny_If (cK (hc pins s σ H _ I h) fun d s1 bV=>?_);obtain⟨H1,I1,q1⟩:=bV;cases d with
 | true=>exact ha pins s1 σ H1 D I1 q1
 | false=>exact hb pins s1 σ H1 D I1 q1
end
noncomputable abbrev TG:=V->St->Hp->(St->Hp->Prop)->Prop
noncomputable abbrev sE:=List V->St->Hp->(St->Hp->Prop)->Prop
def PG(X:Cx)(target:Expr)(t:TG):Prop:=
 ∀(pins:List (Addr×Obj)) (s:Shared) (σ:St) (H:Hp) (v:V) (u:Value) (Q:St->Hp->Prop),Inv X pins σ H s->RelV v u->t v σ H Q->
  wpAny (model X.prog X.w) X.A (assign target X.env u) (fun _ s'=>∃cc H',Inv X pins cc H' s'/\Q cc H') X.xe s
def wH(X:Cx)(ts:List Expr)(t:sE):Prop:=
 ∀(pins:List (Addr×Obj)) (s:Shared) (σ:St) (H:Hp) (vs:List V) (us:List Value) (Q:St->Hp->Prop),Inv X pins σ H s->Vals vs us->t vs σ H Q->
  wpAny (model X.prog X.w) X.A (assignInOrder ((assignEach ts X.env).map (·.2)) us) (fun _ s'=>∃cc H',Inv X pins cc H' s'/\Q cc H') X.xe s
noncomputable abbrev BN:=V->V->V->Hp->(Hp->Prop)->Prop
def F5(X:Cx)(t:BN):Prop:=
 ∀(pins:List (Addr×Obj)) (s:Shared) (σ:St) (H:Hp) (o i v:V) (ov iv u:Value) (Q:Hp->Prop),Inv X pins σ H s->RelV o ov->RelV i iv->RelV v u->t o i v H Q->
  wpAny (model X.prog X.w) X.A (setItem ov iv u) (fun _ s'=>∃H',Inv X pins σ H' s'/\Q H') X.xe s
section
variable {X:Cx} {pos:Pos}
def zZ(i:Nat):TG:=fun v σ H Q=>Q (σ.set i (some v)) H
theorem Om{i:Nat}{x:Str}(hN:X.N.Nodup)(hi:X.N[i]?=some x)(hx:Loc X.env.scope x)(hf:X.fn x=true\/X.env.scope.names.lookup x=some .local:=by first | exact .inl rfl | exact .inr rfl | assumption):PG X (.Name x pos) (zZ i):=by
 intro pins s σ H v u Q I r h;exact wpAny_assign_Name (CS I hN hi hx r (fun s' I'=>⟨_,H,I',h⟩) hf)
noncomputable def Lk:sE:=fun vs σ H Q=>vs=[]/\Q σ H
noncomputable def Mb(t:TG)(u:sE):sE:=fun vs σ H Q=>∃v r,vs=v::r/\t v σ H fun cc H'=>u r cc H' Q
theorem Ol:wH X [] Lk:=by
 intro pins s σ H vs us Q I r h;obtain⟨e,h⟩:=h;subst e;cases r;exact assignInOrder_nil ⟨σ,H,I,h⟩
theorem OI{e:Expr}{es:List Expr}{t:TG}{u:sE}(h1:PG X e t)(h2:wH X es u)
  (hs:(assignEach (e::es) X.env).map (·.2)=assign e X.env::(assignEach es X.env).map (·.2):=by rfl):wH X (e::es) (Mb t u):=by
 intro pins s σ H vs us Q I r h;obtain⟨v,vr,e1,h⟩:=h;subst e1;cases r with
 | cons r rr=>
  rw[hs];refine assignInOrder_cons (cK (h1 pins s σ H _ _ _ I r h) fun _ s1 bV=>?_);obtain⟨ve,H1,I1,q1⟩:=bV;exact h2 pins s1 ve H1 _ _ Q I1 rr q1
def Lj(K:PySem.W.Frag)(n:Nat)(t:sE):TG:=fun v σ H Q=>∃a xs,v=.ref a/\fH K H a xs/\xs.length=n/\t xs σ H Q
theorem MD{es:List Expr}{k:Nat}{t:sE}{n:Nat}(hc:X.calm=true)(h:wH X es t)
  (hn:(assignEach es X.env).length=n:=by rfl) (gI:(assignEach es X.env).findIdx? (·.1)=none:=by rfl):PG X (.Tuple es k pos) (Lj X.K n t):=by
 intro pins s σ H v u Q I r hw;obtain⟨a,xs,e1,hq,hl,hw⟩:=hw;subst e1;cases r;obtain⟨its,rv,ht,hz⟩:=I.tuple hq;refine assign_Tuple_tuple (I.ok.hd hc) ht (by simp[hn,<-hl,rv.length]) gI fun h' hx=>?_
 have I1:Inv X pins σ H { s with heap:=h' }:=I.kept (t':=s.toks) fun b o e=>hx b o (aD (aq e)) e
 exact h pins _ σ H xs _ Q I1 (by simpa using rv) hw
def Li(to ti:TE)(t:BN):TG:=fun v σ H Q=>to σ H fun o H1=>ti σ H1 fun i H2=>t o i v H2 fun H3=>Q σ H3
theorem MC{o i:Expr}{to ti:TE}{t:BN}(ho:PE X o to)(hi:PE X i ti)(hs:F5 X t)
  (ha:∀v,assign (.Subscript o i pos) X.env v=(do
   let ov <-holding [v] (eval o X.env)
   let iv <-holding [v,ov] (eval i X.env)
   standAt pos
   holding [v,ov,iv] (setItem ov iv v)
   release [v,ov,iv] []):=by intro _;rfl):PG X (.Subscript o i pos) (Li to ti t):=by
 intro pins s σ H v u Q I r h;rw[ha];refine aa (aQ (cK (ho pins s σ H _ I h) fun ov s1 bV=>?_));obtain⟨x,H1,I1,r1,q1⟩:=bV;refine aa (aQ (cK (hi pins s1 σ H1 _ I1 q1) fun iv s2 bV=>?_));obtain⟨y,H2,I2,r2,q2⟩:=bV;refine aa (wpAny_standAt (aa (aQ (cK (hs pins s2 σ H2 x y v ov iv u _ I2 r1 r2 r q2) fun _ s3 bV=>?_))));obtain⟨H3,I3,q3⟩:=bV;exact wpAny_release ⟨σ,H3,I3,q3⟩
def zR(te:TE)(g:TG):TS:=fun D σ H=>te σ H fun x H1=>g x σ H1 D.nx
theorem Gy{tg e:Expr}{te:TE}{g:TG}(he:PE X e te)(hg:PG X tg g)(hs:swapsWithSole [tg] e pos.line X.env=pure false:=by rfl)(hw:swappedStores [tg] e X.env=pure none:=by rfl)
  (h1:(assignEach [tg] X.env).map (·.2)=[assign tg X.env]:=by rfl):PS X (.Assign [tg] e pos) (zR te g):=by
 intro pins s σ H D I h;refine wpAny_Assign_stores (cK (he pins s σ H _ I h) fun v s1 bV=>?_) hs hw;obtain⟨x,H1,I1,r1,q1⟩:=bV;rw[h1];exact cK (hg pins s1 σ H1 x v _ I1 r1 q1) fun _ s2 q=>q
theorem Gx{i:Nat}{x:Str}{e:Expr}{te:TE}{pos':Pos}(hN:X.N.Nodup)(hi:X.N[i]?=some x)(hx:Loc X.env.scope x)(he:PE X e te)(hs:swapsWith e (some (.Name x pos')) pos.line X.env=pure false:=by rfl)(hf:X.fn x=true\/X.env.scope.names.lookup x=some .local:=by first | exact .inl rfl | exact .inr rfl | assumption) :
  PS X (.Assign [.Name x pos'] e pos) (zR te (zZ i)):=by
 intro pins s σ H D I h;refine wpAny_Assign_Name (cK (he pins s σ H _ I h) fun v s1 bV=>?_) hs;obtain⟨y,H1,I1,r1,q1⟩:=bV;exact CS I1 hN hi hx r1 (fun s2 I2=>⟨_,H1,I2,q1⟩) hf
end
section
variable {X:Cx} {pos:Pos}
def MB(c:TT)(tb:TS):TS:=fun D σ H=>∃W:Nat->St->Hp->Prop,(∃m,W m σ H)/\∀m σ H,W m σ H->
 c σ H fun b H1=>if b=true then ∃N:St->Hp->Prop,(∀cc H',N cc H'->∃m',m'<m/\W m' cc H')/\tb { D with nx:=N,ct:=N,bk:=D.nx } σ H1 else D.nx σ H1
theorem OH{c:Expr}{body:List Stmt}{tc:TT}{tb:TS}(hp:PassesOwn (model X.prog X.w) X.A X.env X.xe)(hc:PT X c tc)(hb:la X body tb):PS X (.While c body [] pos) (MB tc tb):=by
 intro pins s σ H D I h;obtain⟨W,⟨m0,w0⟩,turn⟩:=h;refine wpAny_While (codeAny_whileLoop (fun n s'=>∃cc H',Inv X pins cc H' s'/\W n cc H') ?_ m0 ⟨σ,H,I,w0⟩);rintro n s1 ⟨ve,H1,I1,w1⟩;refine wpAny_passesOwn hp (cK (hc pins s1 ve H1 _ I1 (turn n ve H1 w1)) fun b s2 bV=>?_);obtain⟨H2,I2,q2⟩:=bV;cases b with
 | true=>
  obtain⟨N,hN,q2⟩:=q2;rw[if_pos rfl];refine wpAny_passesOwn hp (cK (hb pins s2 ve H2 _ I2 q2) fun f s3 q3=>?_);cases f with
  | next=>
   obtain⟨j7,H3,I3,n3⟩:=q3;obtain⟨m',hm,w3⟩:=hN j7 H3 n3;exact⟨m',hm,j7,H3,I3,w3⟩
  | cont=>
   obtain⟨j7,H3,I3,n3⟩:=q3;obtain⟨m',hm,w3⟩:=hN j7 H3 n3;exact⟨m',hm,j7,H3,I3,w3⟩
  | brk=>exact q3
  | ret v=>exact q3
 | false=>
  rw[if_neg az];exact wpAny_execs_nil ⟨ve,H2,I2,q2⟩
end
structure It where
 go:Nat->Hp->Prop
 AY:Nat->Hp->V->Hp->Prop
 stop:Nat->Hp->Prop
def i7(X:Cx)(pins:List (Addr×Obj))(H:Hp)(b:Addr):Prop:=
 H b=none/\b≠X.env.locals/\b∉X.fs/\(b∈X.ex\/X.cS.heap.objs.size<=b)/\(∀x c,X.env.cells.lookup x=some c->c≠b)/\∀p∈X.pn++pins,p.1≠b
theorem Inv.oz{X:Cx}{pins:List (Addr×Obj)}{σ:St}{H H':Hp}{s:Shared}{b:Addr}(I:Inv X pins σ H s)(hb:s.heap.objs.size<=b)(hn:H' b=none):i7 X pins H' b:=by
 refine⟨hn,Nat.ne_of_gt (aF I.lt hb),I.D7 hb,.inr (aT I.sz hb),fun x c e z=>?_,fun p hp z=>?_⟩
 ·obtain⟨v,q⟩:=I.cell x c e;exact absurd (aF q.lt (by rw[z];exact hb)) (Nat.lt_irrefl _)
 ·exact absurd (aF (aq (I.pin p hp).1) (by rw[z];exact hb)) (Nat.lt_irrefl _)
structure Turn (P:Program) (w:World) (K:PySem.W.Frag) (tg:Expr) (J:It) (fp:List Addr) (it:Addr) (tn:Nat->Heap->Prop):Prop where
 mem:it∈fp
 obj:∀i h,tn i h->∀b∈fp,∃o,h.get? b=some o/\∀v,o.data≠.cell v
 keep:∀i h h',tn i h->(∀b∈fp,∀o,h.get? b=some o->h'.get? b=some o)->tn i h'
 item:∀(X:Cx),X.prog=P->X.w=w->X.K=K->X.calm=true->∀(i:Nat) (pins:List (Addr×Obj)) (s:Shared) (σ:St) (H:Hp) (E:Value->Shared->Prop),Inv X pins σ H s->(∀b∈fp,i7 X pins H b)->tn i s.heap->J.go i H->
  wpAny (model P w) X.A (pyNext (.ref it)) (fun r s1=>∃u,r=some u/\
   wpAny (model P w) X.A (letOwnedTupleGo tg (.ref it) u) (fun _ s2=>∃x H',Inv X pins σ H' s2/\RelV x u/\J.AY i H x H'/\tn (i+1) s2.heap/\∀b∈fp,H' b=none) E s1) E s
 done:∀(X:Cx),X.prog=P->X.w=w->X.K=K->X.calm=true->∀(i:Nat) (pins:List (Addr×Obj)) (s:Shared) (σ:St) (H:Hp) (E:Value->Shared->Prop),Inv X pins σ H s->(∀b∈fp,i7 X pins H b)->tn i s.heap->J.stop i H->
  wpAny (model P w) X.A (pyNext (.ref it)) (fun r s1=>r=none/\Inv X pins σ H s1) E s
 self:∀(A:Around) (i:Nat) (s:Shared) (Q:Value->Shared->Prop) (E:Value->Shared->Prop),tn i s.heap->Q (.ref it) s->wpAny (model P w) A (pyIter (.ref it)) Q E s
noncomputable abbrev TI:=St->Hp->(It->Hp->Prop)->Prop
def BA(X:Cx)(pins:List (Addr×Obj))(σ:St)(tg:Expr)(R:It->Hp->Prop)(Eg:Value)(s2:Shared):Prop:=
 ∃(it:Addr) (fp:List Addr) (tn:Nat->Heap->Prop) (J:It) (H':Hp),Eg=.ref it/\Inv X pins σ H' s2/\Turn X.prog X.w X.K tg J fp it tn/\tn 0 s2.heap/\(∀b∈fp,i7 X pins H' b)/\R J H'
def PI(X:Cx)(tg iter:Expr)(wi:TI):Prop:=
 ∀(pins:List (Addr×Obj)) (s:Shared) (σ:St) (H:Hp) (R:It->Hp->Prop),Inv X pins σ H s->wi σ H R->
  wpAny (model X.prog X.w) X.A (eval iter X.env) (fun v s1=>wpAny (model X.prog X.w) X.A (pyIter v) (BA X pins σ tg R) X.xe s1) X.xe s
theorem zY{M:Model}{A:Around}{E:Value->Shared->Prop}{s:Shared}{tg:Expr}{it:Addr}{u:Value}{o:Obj}{n:String}{vs:Array Value}{Q:Unit->Shared->Prop}(ho:s.heap.get? it=some o)(hc:o.cls=.type n)(hd:o.data=.fields vs)
  (hn:["enumerate","zip","dict_itemiterator","dict_reverseitemiterator","odict_iterator","itertools.zip_longest","itertools.pairwise"].contains n=false) (hQ:Q () s):wpAny M A (letOwnedTupleGo tg (.ref it) u) Q E s:=by
 unfold letOwnedTupleGo;cases tg<;>first
  | exact ag hQ
  | (cases u<;>first
    | exact ag hQ
    | (refine aa (wpAny_load ho ?_)
       rw[hc,hd];show wpAny M A (if (["enumerate","zip","dict_itemiterator","dict_reverseitemiterator","odict_iterator","itertools.zip_longest","itertools.pairwise"].contains n&&vs[0]?==some (rawInt _))=true then _ else _) Q E s;rw[if_neg (by intro h;rw[hn,Bool.false_and] at h;cases h)];exact ag hQ))
noncomputable def FJ(K:PySem.W.Frag)(a:Addr):It:=
 ⟨fun i H=>∃xs x,gc K H a xs/\xs[i]?=some x,fun i H x H'=>H'=H/\∀xs,gc K H a xs->xs[i]?=some x,fun i H=>∃xs,gc K H a xs/\xs.length<=i⟩
noncomputable def FI(K:PySem.W.Frag)(a:Addr):It:=
 ⟨fun i H=>∃xs x,fH K H a xs/\xs[i]?=some x,fun i H x H'=>H'=H/\∀xs,fH K H a xs->xs[i]?=some x,fun i H=>∃xs,fH K H a xs/\xs.length<=i⟩
noncomputable def BD(lo:Int)(n:Nat):It:=⟨fun i _=>i<n,fun i H x H'=>H'=H/\x=.int (lo+i),fun i _=>n<=i⟩
theorem P7{P:Program}{w:World}{K:PySem.W.Frag}{tg:Expr}(a it:Addr):Turn P w K tg (FJ K a) [it] it (fun i h=>h.IsListIter it a i) where
 mem:=by simp
 obj:=fun i h st b hb=>by
  have e:b=it:=by simpa using hb
  subst e;obtain⟨o,e,c,d⟩:=st;exact⟨o,e,fun v z=>by rw[d] at z;cases z⟩
 keep:=fun i h h' st k=>st.at fun o e=>k it (by simp) o e
 item:=by
  intro X hP hw hK hc i pins s σ H E I hf st hg;subst hP hw hK;obtain⟨xs,x,hq,hx⟩:=hg;obtain⟨its,rv,p,hz⟩:=I.list hq;obtain⟨u,hu,ru⟩:=rv.get hx;obtain⟨f0,f1,f2,f3,f4,f5⟩:=hf it (by simp);refine wpAny_pyNext_list_item st p.isList (x:=u) (by simpa using hu) fun h' fv sb=>?_
  have I1:Inv X pins σ H { s with heap:=h' }:=I.turned (t':=s.toks) (fun b o hb e=>(sb.2 b hb).trans e) f0 f1 f3 f4 f5;obtain⟨o,e,c,d⟩:=id fv;exact⟨u,rfl,zY (s:={ s with heap:=h' }) e c d (by decide) ⟨x,H,I1,ru,⟨rfl,fun ys hy=>by rw[I.jH hy hq];exact hx⟩,fv,fun b hb=>(hf b hb).1⟩⟩
 done:=by
  intro X hP hw hK hc i pins s σ H E I hf st hg;subst hP hw hK;obtain⟨xs,hq,hx⟩:=hg;obtain⟨its,rv,p,hz⟩:=I.list hq;obtain⟨f0,f1,f2,f3,f4,f5⟩:=hf it (by simp);have hl:=rv.length;exact wpAny_pyNext_list_end (I.ok.hd hc) st p.isList (by simp;omega) fun h' eb=>⟨rfl,I.turned (t':=s.toks) (fun b o hb e=>eb b o hb e) f0 f1 f3 f4 f5⟩
 self:=fun _ _ _ _ _ st h=>wpAny_pyIter_listiter st h
theorem Qy{P:Program}{w:World}{K:PySem.W.Frag}{tg:Expr}(a it:Addr):Turn P w K tg (FI K a) [it] it (fun i h=>h.IsTupleIter it a i) where
 mem:=by simp
 obj:=fun i h st b hb=>by
  have e:b=it:=by simpa using hb
  subst e;obtain⟨o,e,c,d⟩:=st;exact⟨o,e,fun v z=>by rw[d] at z;cases z⟩
 keep:=fun i h h' st k=>st.at fun o e=>k it (by simp) o e
 item:=by
  intro X hP hw hK hc i pins s σ H E I hf st hg;subst hP hw hK;obtain⟨xs,x,hq,hx⟩:=hg;obtain⟨its,rv,p,hz⟩:=I.tuple hq;obtain⟨u,hu,ru⟩:=rv.get hx;obtain⟨f0,f1,f2,f3,f4,f5⟩:=hf it (by simp);refine wpAny_pyNext_tuple_item st (show s.heap.IsTuple a its.toArray from p) (x:=u) (by simpa using hu) fun h' fv sb=>?_
  have I1:Inv X pins σ H { s with heap:=h' }:=I.turned (t':=s.toks) (fun b o hb e=>(sb.2 b hb).trans e) f0 f1 f3 f4 f5;obtain⟨o,e,c,d⟩:=id fv;exact⟨u,rfl,zY (s:={ s with heap:=h' }) e c d (by decide) ⟨x,H,I1,ru,⟨rfl,fun ys hy=>by rw[I.kL hy hq];exact hx⟩,fv,fun b hb=>(hf b hb).1⟩⟩
 done:=by
  intro X hP hw hK hc i pins s σ H E I hf st hg;subst hP hw hK;obtain⟨xs,hq,hx⟩:=hg;obtain⟨its,rv,p,hz⟩:=I.tuple hq;obtain⟨f0,f1,f2,f3,f4,f5⟩:=hf it (by simp);have hl:=rv.length;exact wpAny_pyNext_tuple_end (I.ok.hd hc) st (show s.heap.IsTuple a its.toArray from p) (by simp;omega) fun h' eb=>⟨rfl,I.turned (t':=s.toks) (fun b o hb e=>eb b o hb e) f0 f1 f3 f4 f5⟩
 self:=fun _ _ _ _ _ st h=>wpAny_pyIter_tupleiter st h
theorem QR{P:Program}{w:World}{K:PySem.W.Frag}{tg:Expr}(it:Addr)(lo:Int)(n:Nat):Turn P w K tg (BD lo n) [it] it (fun i h=>IsRangeIter h it (lo+(i:Nat)*1) ((n:Int)-(i:Nat)) 1) where
 mem:=by simp
 obj:=fun i h st b hb=>by
  have e:b=it:=by simpa using hb
  subst e
  exact⟨_,st,fun v z=>by
   have z':Data.fields _=Data.cell v:=z;cases z'⟩
 keep:=fun i h h' st k=>k it (by simp) _ st
 item:=by
  intro X hP hw hK hc i pins s σ H E I hf st hg;subst hP hw hK;obtain⟨f0,f1,f2,f3,f4,f5⟩:=hf it (by simp);have W:=Walks.range (prog:=X.prog) (w:=X.w) (I.ok.hd hc) it lo 1 n;refine W.item i s _ _ hg st fun v h' tk hv fv kk=>?_
  obtain⟨t,rfl⟩:=hv;have I1:Inv X pins σ H { s with heap:=h',toks:=tk }:=I.turned (fun b o hb e=>kk b o (by simpa using hb) e) f0 f1 f3 f4 f5;refine⟨_,rfl,zY (s:={ s with heap:=h',toks:=tk }) (n:="range_iterator") fv rfl rfl (by decide) ⟨.int (lo+i),H,I1,⟨t,?_⟩,⟨rfl,rfl⟩,fv,fun b hb=>(hf b hb).1⟩⟩;rw[Int.mul_one]
 done:=by
  intro X hP hw hK hc i pins s σ H E I hf st hg;subst hP hw hK;obtain⟨f0,f1,f2,f3,f4,f5⟩:=hf it (by simp);exact wpAny_pyNext_range_end (I.ok.hd hc) st (by have:n<=i:=hg;omega) fun h' eb=>⟨rfl,I.turned (t':=s.toks) (fun b o hb e=>eb b o hb e) f0 f1 f3 f4 f5⟩
 self:=fun _ _ _ _ _ st h=>wpAny_pyIter_rangeiter st h
end L2
namespace L2
open PySem PySem.Spec PyProof.Rows
section
variable {X:Cx} {tg:Expr}
theorem OG{pins:List (Addr×Obj)}{σ:St}{H:Hp}{s:Shared}{R:It->Hp->Prop}{E:Value->Shared->Prop}{lo hi:Int}{t u v:Tok}{tk:Nat}(I:Inv X pins σ H s)(h1:-(2 ^ 62)<=lo)(h2:lo<2 ^ 62)(h3:-(2 ^ 62)<=hi)(h4:hi<2 ^ 62)
  (q:R (BD lo (hi-lo).toNat) H):wpAny (model X.prog X.w) X.A (pyIter (.ref s.heap.objs.size)) (BA X pins σ tg R) E { s with heap:=s.heap.push { cls:=.type "range",data:=.fields #[.int lo t,.int hi u,.int 1 v] },toks:=tk }:=by
 refine wpAny_pyIter_range (IsRange.new ..) (small_one h1 h2 h3 h4) ?_;have I1:Inv X pins σ H { s with heap:=s.heap.push { cls:=.type "range",data:=.fields #[.int lo t,.int hi u,.int 1 v] },toks:=tk }:=I.kept fun b o e=>af _ e
 refine⟨(s.heap.push { cls:=.type "range",data:=.fields #[.int lo t,.int hi u,.int 1 v] }).objs.size,[(s.heap.push { cls:=.type "range",data:=.fields #[.int lo t,.int hi u,.int 1 v] }).objs.size],_,_,H,rfl,
  I1.kept (t':=tk) fun b o e=>af _ e,QR _ lo (hi-lo).toNat,?_,fun b hb=>?_,q⟩
 ·have e1:lo+((0:Nat):Int)*1=lo:=by simp
  have e2:(((hi-lo).toNat:Nat):Int)-((0:Nat):Int)=Builtin.Range.rangeSize lo hi 1:=by rw[rangeSize_one];split<;>omega
  show IsRangeIter _ _ (lo+((0:Nat):Int)*1) ((((hi-lo).toNat:Nat):Int)-((0:Nat):Int)) 1;rw[e1,e2];exact ax _ rfl
 ·have e:b=(s.heap.push { cls:=.type "range",data:=.fields #[.int lo t,.int hi u,.int 1 v] }).objs.size:=by simpa using hb
  subst e;exact I1.oz (aw _) (I1.cB.fresh (aw _))
def Ma(ta:TA):TI:=fun σ H R=>ta σ H fun vs H1=>∃j:Int,vs=[.int j]/\-(2 ^ 62)<=j/\j<2 ^ 62/\R (BD 0 j.toNat) H1
theorem P6{a:Expr}{ta:TA}{p pos:Pos}(hg:Gl X "range")(hm:X.mg "range"=none)(ha:PA X [a] ta)(hs:starEach [a] X.env=[(false,eval a X.env)]:=by rfl):PI X tg (.Call (.Name "range" p) [a] [] pos) (Ma ta):=by
 intro pins s σ H R I h;refine Call_ (uj I hg hm boot_range (PyProof.Rows.callWith_type1 (cK (ha pos pins s σ H _ I h) fun us s1 bV=>?_) hs rfl));obtain⟨vs,H1,I1,r1,q1⟩:=bV;obtain⟨j,e,q1,q2,q⟩:=q1;subst e;cases r1 with
 | cons r rr=>
  cases rr;obtain⟨t,rfl⟩:=r;exact call_range_1 (OG I1 (by omega) (by omega) q1 q2 (by simpa using q))
def Lh(wi:TI)(g:TG)(tb:TS):TS:=fun D σ H=>wi σ H fun J H1=>∃W:Nat->Nat->St->Hp->Prop,(∃m,W 0 m σ H1)/\∀i m σ H,W i m σ H->
 (J.stop i H/\D.nx σ H)\/(J.go i H/\∃N:St->Hp->Prop,(∀cc H',N cc H'->∃m',m'<m/\W (i+1) m' cc H')/\∀x H',J.AY i H x H'->g x σ H' fun jB H2=>tb { D with nx:=N,ct:=N,bk:=D.nx } jB H2)
noncomputable def xx(fp:List Addr)(h:Heap):List (Addr×Obj):=fp.filterMap fun b=>(h.get? b).map fun o=>(b,o)
theorem AI{fp:List Addr}{h:Heap}{b:Addr}{o:Obj}(hb:b∈fp)(e:h.get? b=some o):(b,o)∈xx fp h:=List.mem_filterMap.mpr ⟨b,hb,by rw[e];rfl⟩
theorem P5{fp:List Addr}{h:Heap}{p:Addr×Obj}(hp:p∈xx fp h):p.1∈fp/\h.get? p.1=some p.2:=by
 obtain⟨b,hb,e⟩:=List.mem_filterMap.mp hp;cases q:h.get? b with
 | none=>rw[q] at e;cases e
 | some o=>
  rw[q] at e;have e':(b,o)=p:=Option.some.inj e;subst e';exact⟨hb,q⟩
theorem Inv.pinned{pins:List (Addr×Obj)}{σ:St}{H:Hp}{s:Shared}{fp:List Addr}(I:Inv X pins σ H s)(hf:∀b∈fp,i7 X pins H b)(ho:∀b∈fp,∃o,s.heap.get? b=some o/\∀v,o.data≠.cell v):Inv X (pins++xx fp s.heap) σ H s:=
 I.nH fun p hp=>(av.mp hp).elim (fun z=>I.pin p (aV _ z)) fun z=>by
  obtain⟨hb,e⟩:=P5 z;obtain⟨f0,f1,f2,_⟩:=hf p.1 hb;obtain⟨o,e',d⟩:=ho p.1 hb;rw[e] at e';cases e';exact⟨e,f0,f1,f2,d⟩
theorem Inv.ik{pins pl:List (Addr×Obj)}{σ:St}{H:Hp}{s:Shared}(I:Inv X (pins++pl) σ H s):Inv X pins σ H s:=I.nH fun p hp=>I.pin p (aV _ (List.mem_append_left _ hp))
theorem Gw{iter:Expr}{body:List Stmt}{wi:TI}{g:TG}{tb:TS}{pos:Pos}(hp:PassesOwn (model X.prog X.w) X.A X.env X.xe)(hc:X.calm=true)(hi:PI X tg iter wi)(hg:PG X tg g)(hb:la X body tb)
  (hs:∀x,foldedSetIterable iter X.env x=pure x:=by intro _;rfl):PS X (.For tg iter body [] pos) (Lh wi g tb):=by
 intro pins s σ H D I h;refine wpAny_For (cK (hi pins s σ H _ I h) fun v s1 h1=>cK h1 fun Eg s2 h2=>?_) hs;obtain⟨it,fp,tn,J,H2,e,I2,T,o3,f2,W,⟨m0,w0⟩,turn⟩:=h2;subst e
 -- DP stays true of oZ uN objects through oZ loop
 have uy:∀{H':Hp},(∀b∈fp,H' b=none)->∀b∈fp,i7 X pins H' b:=fun hn b hb=>⟨hn b hb,(f2 b hb).2⟩
 refine codeAny_forLoop_any (fun n s'=>∃i cc H',Inv X pins cc H' s'/\tn i s'.heap/\(∀b∈fp,H' b=none)/\W i n cc H') ?_ m0 ⟨0,σ,H2,I2,o3,fun b hb=>(f2 b hb).1,w0⟩;rintro n s3 ⟨i,j7,H3,I3,A3,KC,w3⟩;rcases turn i n j7 H3 w3 with⟨stop,qn⟩ | ⟨go,N,hN,step⟩
 ·refine wpAny_passesOwn hp (cK (T.done X rfl rfl rfl hc i pins s3 j7 H3 X.xe I3 (uy KC) A3 stop) fun r s4 bV=>?_);obtain⟨hr,I4⟩:=bV;subst hr;exact wpAny_execs_nil ⟨j7,H3,I4,qn⟩
 ·refine wpAny_passesOwn hp (cK (T.item X rfl rfl rfl hc i pins s3 j7 H3 X.xe I3 (uy KC) A3 go) fun r s4 bV=>?_);obtain⟨u,hr,h4⟩:=bV;subst hr;refine wpAny_passesOwn hp (cK h4 fun _ s5 bV=>?_);obtain⟨x,H5,I5,r5,y5,DU,Vp⟩:=bV;have VH:=I5.pinned (uy Vp) (T.obj _ _ DU);refine wpAny_passesOwn hp (cK (hg _ s5 j7 H5 x u _ VH r5 (step x H5 y5)) fun _ s6 bV=>?_);obtain⟨KR,H6,I6,q6⟩:=bV;refine wpAny_passesOwn hp (cK (hb _ s6 KR H6 _ I6 q6) fun f s7 q7=>?_);have again:∀{mD:St} {H7:Hp},Inv X (pins++xx fp s5.heap) mD H7 s7->N mD H7->∃m,m<n/\∃i cc H',Inv X pins cc H' s7/\tn i s7.heap/\(∀b∈fp,H' b=none)/\W i m cc H':=fun{mD H7} I7 n7=>by
   obtain⟨m',hm,w7⟩:=hN mD H7 n7;refine⟨m',hm,i+1,mD,H7,I7.ik,T.keep _ _ _ DU fun b hb o e=>(I7.pin (b,o) (aV _ (aV _ (AI hb e)))).1,fun b hb=>?_,w7⟩;obtain⟨o,e,d⟩:=T.obj _ _ DU b hb;exact(I7.pin (b,o) (aV _ (aV _ (AI hb e)))).2.1
  cases f with
  | next=>obtain⟨mD,H7,I7,n7⟩:=q7;exact again I7 n7
  | cont=>obtain⟨mD,H7,I7,n7⟩:=q7;exact again I7 n7
  | brk=>obtain⟨mD,H7,I7,q7⟩:=q7;exact⟨mD,H7,I7.ik,q7⟩
  | ret v=>obtain⟨x7,mD,H7,I7,r7,q7⟩:=q7;exact⟨x7,mD,H7,I7.ik,r7,q7⟩
end
end L2
namespace L2
open PySem PySem.Spec PyProof.Rows
noncomputable abbrev R2:=V->V->Hp->VK->Prop
def gh(X:Cx)(f:Value->Value->Sem Value)(r:R2):Prop:=
 ∀(pins:List (Addr×Obj)) (s:Shared) (σ:St) (H:Hp) (x y:V) (v u:Value) (Q:VK),Inv X pins σ H s->RelV x v->RelV y u->r x y H Q->
  wpAny (model X.prog X.w) X.A (f v u) (EP X pins σ Q) X.xe s
def FG(X:Cx)(f:Value->Sem Value)(r:V->Hp->VK->Prop):Prop:=
 ∀(pins:List (Addr×Obj)) (s:Shared) (σ:St) (H:Hp) (x:V) (v:Value) (Q:VK),Inv X pins σ H s->RelV x v->r x H Q->
  wpAny (model X.prog X.w) X.A (f v) (EP X pins σ Q) X.xe s
def c8(X:Cx)(f:Value)(r:List V->Hp->VK->Prop):Prop:=
 ∀(pins:List (Addr×Obj)) (s:Shared) (σ:St) (H:Hp) (xs:List V) (us:List Value) (Q:VK),Inv X pins σ H s->Vals xs us->r xs H Q->
  wpAny (model X.prog X.w) X.A (call f us) (EP X pins σ Q) X.xe s
def yF(r:R2)(ta tb:TE):TE:=fun σ H Q=>ta σ H fun x H1=>tb σ H1 fun y H2=>r x y H2 Q
def Tr(r:V->Hp->VK->Prop)(ta:TE):TE:=fun σ H Q=>ta σ H fun x H1=>r x H1 Q
def rI(C:Int->Int->Prop)(g:Int->Int->V):R2:=fun x y H Q=>∃i j,x=.int i/\y=.int j/\C i j/\Q (g i j) H
def mT(g:Int->Int->V):R2:=fun x y H Q=>∃i j,x=.int i/\y=.int j/\Q (g i j) H
def rU(g:Int->V):V->Hp->VK->Prop:=fun x H Q=>∃i,x=.int i/\Q (g i) H
section
variable {X:Cx} {a b c:Expr} {ta tb tc:TE} {pos:Pos}
theorem BM(ha:PE X a ta)(hb:PE X b tb){pins:List (Addr×Obj)}{s:Shared}{σ:St}{H:Hp}{R:V->V->Hp->Prop}(I:Inv X pins σ H s)
  (h:ta σ H fun x H1=>tb σ H1 fun y H2=>R x y H2) {Q:Value->Shared->Prop} {f:Value->Value->Sem Value}
  (hf:∀v u s2 x y H2,Inv X pins σ H2 s2->RelV x v->RelV y u->R x y H2->wpAny (model X.prog X.w) X.A (f v u) Q X.xe s2) :
  wpAny (model X.prog X.w) X.A (eval a X.env) (fun v cw=>wpAny (model X.prog X.w) X.A (eval b X.env) (fun u jn=>wpAny (model X.prog X.w) X.A (f v u) Q X.xe jn) X.xe cw) X.xe s:=by
 refine cK (ha pins s σ H _ I h) fun v s1 bV=>?_
 obtain⟨x,H1,I1,r1,q1⟩:=bV;refine cK (hb pins s1 σ H1 _ I1 q1) fun u s2 bV=>?_
 obtain⟨y,H2,I2,r2,q2⟩:=bV;exact hf v u s2 x y H2 I2 r1 r2 q2
theorem L9{op:Operator}{r:R2}(ho:gh X (binaryOp op) r)(ha:PE X a ta)(hb:PE X b tb):PE X (.BinOp a op b pos) (yF r ta tb):=by
 intro pins s σ H Q I h;exact wpAny_BinOp (BM ha hb I h fun v u s2 x y H2 I2 rx ry q=>ho pins s2 σ H2 x y v u Q I2 rx ry q)
theorem L8{op:UnaryOp}{r:V->Hp->VK->Prop}(ho:FG X (unaryOp op) r)(ha:PE X a ta):PE X (.UnaryOp op a pos) (Tr r ta):=by
 intro pins s σ H Q I h;exact UnaryOp_ (cK (ha pins s σ H _ I h) fun v s1 bV=>by obtain⟨x,H1,I1,r1,q1⟩:=bV;exact ho pins s1 σ H1 x v Q I1 r1 q1)
theorem A8{f:Value->Value->Sem Value}{C:Int->Int->Prop}{g:Int->Int->Int}
  (rule:∀(i j:Int) (t u:Tok) (s:Shared) (Q:Value->Shared->Prop) (E:Value->Shared->Prop),C i j->Q (.int (g i j) s.toks) { s with toks:=s.toks+1 }->wpAny (model X.prog X.w) X.A (f (.int i t) (.int j u)) Q E s) :
  gh X f (rI C fun i j=>.int (g i j)):=by
 intro pins s σ H x y v u Q I rx ry h;obtain⟨i,j,rfl,rfl,hc,q⟩:=h;obtain⟨t,rfl⟩:=rx;obtain⟨t',rfl⟩:=ry;exact rule i j t t' s _ _ hc ⟨.int (g i j),H,I.tok _,⟨_,rfl⟩,q⟩
theorem F4{f:Value->Value->Sem Value}{g:Int->Int->Int}
  (rule:∀(i j:Int) (t u:Tok) (s:Shared) (Q:Value->Shared->Prop) (E:Value->Shared->Prop),Q (.int (g i j) s.toks) { s with toks:=s.toks+1 }->wpAny (model X.prog X.w) X.A (f (.int i t) (.int j u)) Q E s) :
  gh X f (mT fun i j=>.int (g i j)):=by
 intro pins s σ H x y v u Q I rx ry h;obtain⟨i,j,rfl,rfl,q⟩:=h;obtain⟨t,rfl⟩:=rx;obtain⟨t',rfl⟩:=ry;exact rule i j t t' s _ _ ⟨.int (g i j),H,I.tok _,⟨_,rfl⟩,q⟩
theorem zQ{f:Value->Value->Sem Value}{g:Int->Int->Bool}
  (rule:∀(i j:Int) (t u:Tok) (s:Shared) (Q:Value->Shared->Prop) (E:Value->Shared->Prop),Q (.bool (g i j)) s->wpAny (model X.prog X.w) X.A (f (.int i t) (.int j u)) Q E s) :
  gh X f (mT fun i j=>.bl (g i j)):=by
 intro pins s σ H x y v u Q I rx ry h;obtain⟨i,j,rfl,rfl,q⟩:=h;obtain⟨t,rfl⟩:=rx;obtain⟨t',rfl⟩:=ry;exact rule i j t t' s _ _ ⟨.bl (g i j),H,I,rfl,q⟩
def fc(i j:Int):Prop:=0<j/\j<1073741824
def qw(i j:Int):Prop:=0<=j/\j<=1000000/\i.natAbs<2 ^ 64
def iK(i j:Int):Prop:=(-(2 ^ 64)<i/\i<2 ^ 64)\/(-(2 ^ 64)<j/\j<2 ^ 64)
theorem iK.ok{i j:Int}(h:iK i j):IntMulOk i j:=by
 rcases h with⟨h1,h2⟩ | ⟨h1,h2⟩
 ·exact .of_left (intBits_le_64 h1 h2)
 ·exact .of_right (intBits_le_64 h1 h2)
theorem uG:gh X (binaryOp .Add) (mT fun i j=>.int (i+j)):=F4 fun _ _ _ _ _ _ _ q=>add_int q
theorem MA:gh X (binaryOp .Sub) (mT fun i j=>.int (i-j)):=F4 fun _ _ _ _ _ _ _ q=>sub_int q
theorem Mz:gh X (binaryOp .Mult) (rI iK fun i j=>.int (i*j)):=A8 fun _ _ _ _ _ _ _ hc q=>mul_int q hc.ok
theorem Oj:gh X (binaryOp .FloorDiv) (rI fc fun i j=>.int (i/j)):=A8 fun i j _ _ _ _ _ hc q=>by
 have h1:(0:Int)<j:=hc.1;have h2:j<1073741824:=hc.2;exact floordiv_int (by omega) (by rw[Int.fdiv_eq_ediv_of_nonneg i (by omega)];exact q) (.inl (PyProof.noPylong_small (by omega)))
theorem My:gh X (binaryOp .Mod) (rI (fun _ j=>0<j) fun i j=>.int (i%j)):=A8 fun i j _ _ _ _ _ hc q=>by
 have h1:(0:Int)<j:=hc;exact mod_int' (by omega) (by rw[Int.fmod_eq_emod_of_nonneg i (by omega)];exact q)
theorem Mx:gh X (binaryOp .Pow) (rI qw fun i j=>.int (i ^ j.toNat)):=A8 fun _ _ _ _ _ _ _ hc q=>pow_int_small hc.1 hc.2.1 hc.2.2 q
theorem Th{f:Value->Sem Value}{g:Int->Int}
  (rule:∀(i:Int) (t:Tok) (s:Shared) (Q:Value->Shared->Prop) (E:Value->Shared->Prop),Q (.int (g i) s.toks) { s with toks:=s.toks+1 }->wpAny (model X.prog X.w) X.A (f (.int i t)) Q E s) :
  FG X f (rU fun i=>.int (g i)):=by
 intro pins s σ H x v Q I rx h;obtain⟨i,rfl,q⟩:=h;obtain⟨t,rfl⟩:=rx;exact rule i t s _ _ ⟨.int (g i),H,I.tok _,⟨_,rfl⟩,q⟩
theorem Mw:FG X (unaryOp .USub) (rU fun i=>.int (-i)):=Th fun _ _ _ _ _ q=>neg_int q
end
section
variable {X:Cx} {a b c:Expr} {ta tb tc:TE} {pos:Pos}
theorem Cg{pins:List (Addr×Obj)}{σ:St}{H:Hp}{s:Shared}{Q:VK}{k k':Bool}(I:Inv X pins σ H s)(q:Q (.bl k) H)(e:k=k'):EP X pins σ Q (.bool k') s:=by
 subst e;exact⟨.bl k,H,I,rfl,q⟩
theorem zX:gh X (compareOp .Lt) (mT fun i j=>.bl (decide (i<j))):=zQ fun _ _ _ _ _ _ _ q=>lt_int q
theorem zW:gh X (compareOp .LtE) (mT fun i j=>.bl (decide (i<=j))):=zQ fun _ _ _ _ _ _ _ q=>le_int q
theorem L7:gh X (compareOp .Gt) (mT fun i j=>.bl (decide (j<i))):=zQ fun _ _ _ _ _ _ _ q=>gt_int q
theorem L6:gh X (compareOp .GtE) (mT fun i j=>.bl (decide (j<=i))):=zQ fun _ _ _ _ _ _ _ q=>ge_int q
theorem oj:gh X (compareOp .In) (fun x y H Q=>∃i j,x=.str i/\y=.str j/\Q (.bl (!(Builtin.Str.occurrences j i 0 j.length 1).isEmpty)) H):=by
 intro pins s σ H x y v u Q I rx ry h;obtain⟨i,j,rfl,rfl,q⟩:=h;obtain⟨t,rfl⟩:=rx;obtain⟨t',rfl⟩:=ry;exact in_str (Cg I q rfl)
theorem Mv:gh X (compareOp .Is) (fun x y H Q=>y=.non/\Q (.bl (decide (x=.non))) H):=by
 intro pins s σ H x y v u Q I rx ry h;obtain⟨rfl,q⟩:=h;cases ry;refine is_none_gen (Cg I q ?_);cases x<;>first
  | (cases rx;rfl)
  | (obtain⟨t,rfl⟩:=rx;rfl)
theorem Oi:gh X (compareOp .IsNot) (fun x y H Q=>y=.non/\Q (.bl (!decide (x=.non))) H):=by
 intro pins s σ H x y v u Q I rx ry h;obtain⟨rfl,q⟩:=h;cases ry;refine isnot_none_gen (Cg I q ?_);cases x<;>first
  | (cases rx;rfl)
  | (obtain⟨t,rfl⟩:=rx;rfl)
theorem gh.or{f:Value->Value->Sem Value}{r r':R2}(h:gh X f r)(h':gh X f r'):gh X f (fun x y H Q=>r x y H Q\/r' x y H Q):=by
 intro pins s σ H x y v u Q I rx ry q;rcases q with q | q
 ·exact h pins s σ H x y v u Q I rx ry q
 ·exact h' pins s σ H x y v u Q I rx ry q
theorem Gv(b:Expr){op:CmpOp}(h:op≠.In:=by decide)(h2:op≠.NotIn:=by decide):behindInMarks op b=false:=by
 have e1:(op==CmpOp.In)=false:=by cases op<;>first | rfl | exact absurd rfl h
 have e2:(op==CmpOp.NotIn)=false:=by cases op<;>first | rfl | exact absurd rfl h2
 cases b<;>simp[behindInMarks,e1,e2]
theorem Oh{op:CmpOp}{r:R2}(ho:gh X (compareOp op) r)(ha:PE X a ta)(hb:PE X b tb)(hm:behindInMarks op b=false):PE X (.Compare a [op] [b] pos) (yF r ta tb):=by
 intro pins s σ H Q I h;exact wpAny_Compare1 (BM ha hb I h fun v u s2 x y H2 I2 rx ry q=>ho pins s2 σ H2 x y v u Q I2 rx ry q) hm
def BW(t:TE):TT:=fun σ H Q=>t σ H fun x H'=>∃k,x=.bl k/\Q k H'
theorem ND{op:CmpOp}{r:R2}(ho:gh X (compareOp op) r)(ha:PE X a ta)(hb:PE X b tb)(hm:behindInMarks op b=false):PT X (.Compare a [op] [b] pos) (BW (yF r ta tb)):=by
 intro pins s σ H Q I h;refine wpAny_isTrue_Compare1 (cK (ha pins s σ H _ I h) fun v s1 bV=>?_) hm;obtain⟨x,H1,I1,r1,q1⟩:=bV;refine cK (hb pins s1 σ H1 _ I1 q1) fun u s2 bV=>?_
 obtain⟨y,H2,I2,r2,q2⟩:=bV;refine cK (ho pins s2 σ H2 x y v u _ I2 r1 r2 q2) fun c s3 bV=>?_
 obtain⟨z,H3,I3,r3,k,e,q3⟩:=bV;subst e;cases r3;exact wpAny_truthy_bool ⟨H3,I3,q3⟩
def Cf(r r':R2)(ta tb tc:TE):TE:=fun σ H Q=>ta σ H fun x H1=>tb σ H1 fun y H2=>r x y H2 fun z H3=>∃k,z=.bl k/\
 (if k=true then tc σ H3 fun w' H4=>r' y w' H4 Q else Q (.bl false) H3)
theorem OF{op mV:CmpOp}{r r':R2}(ho:gh X (compareOp op) r)(ku:gh X (compareOp mV) r')(ha:PE X a ta)(hb:PE X b tb)(hc:PE X c tc)
  (hm:lastMarks [op,mV] [b,c]=false:=by with_unfolding_all rfl):PE X (.Compare a [op,mV] [b,c] pos) (Cf r r' ta tb tc):=by
 intro pins s σ H Q I h;refine Compare_chain (cK (ha pins s σ H _ I h) fun v s1 bV=>?_) hm;obtain⟨x,H1,I1,r1,q1⟩:=bV;refine chain_link (cK (hb pins s1 σ H1 _ I1 q1) fun u s2 bV=>?_);obtain⟨y,H2,I2,r2,q2⟩:=bV;refine cK (ho pins s2 σ H2 x y v u _ I2 r1 r2 q2) fun d s3 bV=>?_
 obtain⟨z,H3,I3,r3,k,e,q3⟩:=bV;subst e;cases r3;refine wpAny_truthy_bool ?_;cases k with
 | false=>exact ite_ff ⟨.bl false,H3,I3,rfl,q3⟩
 | true=>exact ite_tt (chain_last (cK (hc pins s3 σ H3 _ I3 q3) fun w' s4 bV=>by obtain⟨z',H4,I4,r4,q4⟩:=bV;exact ku pins s4 σ H4 y z' u w' Q I4 r2 r4 q4))
theorem OE{op mV:CmpOp}{r r':R2}(ho:gh X (compareOp op) r)(ku:gh X (compareOp mV) r')(ha:PE X a ta)(hb:PE X b tb)(hc:PE X c tc)
  (hm:lastMarks [op,mV] [b,c]=false:=by with_unfolding_all rfl):PT X (.Compare a [op,mV] [b,c] pos) (BW (Cf r r' ta tb tc)):=by
 intro pins s σ H Q I h;refine isTrue_chain (cK (ha pins s σ H _ I h) fun v s1 bV=>?_) hm;obtain⟨x,H1,I1,r1,q1⟩:=bV;refine test_link (cK (hb pins s1 σ H1 _ I1 q1) fun u s2 bV=>?_);obtain⟨y,H2,I2,r2,q2⟩:=bV;refine cK (ho pins s2 σ H2 x y v u _ I2 r1 r2 q2) fun d s3 bV=>?_
 obtain⟨z,H3,I3,r3,k,e,q3⟩:=bV;subst e;cases r3;refine wpAny_truthy_bool ?_;cases k with
 | false=>
  obtain⟨k',e',q'⟩:=q3;cases e';exact ite_ff ⟨H3,I3,q'⟩
 | true=>
  refine ite_tt (test_last (cK (hc pins s3 σ H3 _ I3 q3) fun w' s4 bV=>?_));obtain⟨z',H4,I4,r4,q4⟩:=bV;refine cK (ku pins s4 σ H4 y z' u w' _ I4 r2 r4 q4) fun d' s5 bV=>?_
  obtain⟨z2,H5,I5,r5,k2,e2,q5⟩:=bV;subst e2;cases r5;exact wpAny_truthy_bool ⟨H5,I5,q5⟩
theorem vy:(sizeLine:Nat)<2 ^ 63:=by rw[sizeLine_eq];decide
theorem mU:gh X (binaryOp .Add) (fun x y H Q=>∃i j,x=.str i/\y=.str j/\i.length+j.length<=sizeLine/\Q (.str (i++j)) H):=by
 intro pins s σ H x y v u Q I rx ry h;obtain⟨i,j,rfl,rfl,hz,q⟩:=h;obtain⟨t,rfl⟩:=rx;obtain⟨t',rfl⟩:=ry;exact add_str (fun t' tk=>⟨.str (i++j),H,I.tok _,⟨_,rfl⟩,q⟩) hz
theorem lQ{x:V}{us:List Value}(r:Vals [x] us):∃u,us=[u]/\RelV x u:=by
 cases r with
 | cons r1 r2=>cases r2;exact⟨_,rfl,r1⟩
theorem vv{x y:V}{us:List Value}(r:Vals [x,y] us):∃u w',us=[u,w']/\RelV x u/\RelV y w':=by
 cases r with
 | cons r1 r2=>
  cases r2 with
  | cons r3 r4=>cases r4;exact⟨_,_,rfl,r1,r3⟩
theorem P4(hc:X.calm=true):c8 X (.builtin "max") (fun xs H Q=>∃i j,xs=[.int i,.int j]/\Q (.int (if j>i then j else i)) H):=by
 intro pins s σ H xs us Q I r h;obtain⟨i,j,rfl,q⟩:=h;obtain⟨u,w',rfl,⟨t,rfl⟩,⟨t',rfl⟩⟩:=vv r;refine max_two_ints (I.ok.hd hc) fun h' tk k=>⟨_,H,I.kept k,?_,q⟩
 by_cases hj:j>i
 ·rw[if_pos hj,if_pos hj];exact⟨_,rfl⟩
 ·rw[if_neg hj,if_neg hj];exact⟨_,rfl⟩
theorem P2(hc:X.calm=true):c8 X (.builtin "min") (fun xs H Q=>∃i j,xs=[.int i,.int j]/\Q (.int (if j<i then j else i)) H):=by
 intro pins s σ H xs us Q I r h;obtain⟨i,j,rfl,q⟩:=h;obtain⟨u,w',rfl,⟨t,rfl⟩,⟨t',rfl⟩⟩:=vv r;refine min_two_ints (I.ok.hd hc) fun h' tk k=>⟨_,H,I.kept k,?_,q⟩
 by_cases hj:j<i
 ·rw[if_pos hj,if_pos hj];exact⟨_,rfl⟩
 ·rw[if_neg hj,if_neg hj];exact⟨_,rfl⟩
theorem P1:c8 X (.type "int") (fun xs H Q=>(∃i,xs=[.int i]/\Q (.int i) H)\/∃k,xs=[.bl k]/\Q (.int (if k then 1 else 0)) H):=by
 intro pins s σ H xs us Q I r h;rcases h with⟨i,rfl,q⟩ | ⟨k,rfl,q⟩
 ·obtain⟨u,rfl,t,rfl⟩:=lQ r;exact call_int_int ⟨.int i,H,I,⟨_,rfl⟩,q⟩
 ·obtain⟨u,rfl,r1⟩:=lQ r;cases r1;exact call_int_bool ⟨.int (if k then 1 else 0),H,I.tok _,⟨_,rfl⟩,q⟩
end
end L2
namespace L2
open PySem PySem.Spec PyProof.Rows
structure oF (h:Heap) (x dx C:Addr) (mA:Str->Option Value):Prop where
 obj:h.get? x=some (PySem.W.instObj C dx)
 ns:h.Ns1 dx mA
 ne:dx≠x
theorem IS{h:Heap}{dx:Addr}{mA:Str->Option Value}(n:h.Ns1 dx mA):∃od,h.get? dx=some od/\∀name,PySem.W.lookIn name od=some (mA name):=by
 obtain⟨o,es,ep,ho,hd,hk,_,hm⟩:=n;refine⟨o,ho,fun name=>?_⟩;have e:=hm name;unfold nsFind findBy at e;rw[<-Array.find?_toList] at e;unfold PySem.W.lookIn;rw[hd];dsimp only;split
 ·rename_i y q;rw[q] at e;exact congrArg some e
 ·rename_i q;rw[q] at e;have a:es.toList.any (·.refKey)=false:=by
   rw[List.any_eq_false];intro y hy;obtain⟨z,t,si⟩:=hk y (Array.mem_toList_iff.mp hy);simp[DictEntry.refKey,si]
  have a':¬es.toList.any (·.refKey)=true:=by rw[a];exact az
  rw[if_neg a'];exact congrArg some e
theorem oF.look{h:Heap}{x dx C:Addr}{mA:Str->Option Value}(I:oF h x dx C mA):∃od,PySem.W.InstAt h x (PySem.W.instObj C dx) C (some od)/\∀name,PySem.W.lookIn name od=some (mA name):=
 let⟨od,ho,hl⟩:=IS I.ns
 ⟨od,⟨I.obj,rfl,rfl,ho⟩,hl⟩
section
variable {prog:Program} {w:World} {A:Around} {E:Value->Shared->Prop} {s:Shared} {K:PySem.W.Frag} {x dx C f:Addr} {mA:Str->Option Value} {name:Str} {v:Value}
theorem NC{expr:Bool}{Q:Value->Shared->Prop}(X:K.In s.heap)(I:oF s.heap x dx C mA)(hg:PySem.W.plainGet K C name=true)(hh:PySem.W.hasDictIn K C=true)
  (ha:PySem.W.findIn K (.ref C) name=some none) (hv:mA name=some v) (uQ:PySem.W.handedIn v=true) (h:Q v { s with toks:=s.toks+1 }) :
  wpAny (model prog w) A (getAttr (.ref x) name expr) Q E s:=by
 obtain⟨od,J,hl⟩:=I.look;exact PySem.W.get_value X J (PySem.W.plainGet_of hg).1 (PySem.W.findObj_own hh ha rfl (by rw[hl,hv])) uQ h
theorem NB{ns:List Str}{Q:Unit->Shared->Prop}(X:K.In s.heap)(I:oF s.heap x dx C mA)
  (hs:PySem.W.findIn K (.ref C) "__setattr__"=some (some (.builtin "object.__setattr__"))) (hp:PySem.W.plainOver K C=true) (ht:PySem.W.takerIn K C name=some none) (hh:PySem.W.hasDictIn K C=true)
  (hw:PySem.Within mA ns) (i5:ns.length<=sizeLine)
  (h:∀h',oF h' x dx C (fun y=>if y=name then some v else mA y)->Heap.SameBut dx s.heap h'->Q () { s with heap:=h',toks:=s.toks+2 }) :
  wpAny (model prog w) A (setAttr (.ref x) name v) Q E s:=by
 obtain⟨od,J,hl⟩:=I.look;refine PySem.W.set_plain X J hs (PySem.W.osa_open (s:={ s with toks:=s.toks+1 }) (r:=none) X J hp ht fun b=>?_);obtain⟨cd,hc,sr⟩:=PySem.W.any_some hh;have hx:s.heap.get? x=some ⟨.ref C,some dx,.plain,#[]⟩:=I.obj;refine aa (ag (aa (aa (wpAny_loadPart hx (aa (PySem.W.Looks.here (s:={ s with toks:=s.toks+1 }) (PySem.W.looks_clsIn X hc) ?_))))));rw[sr];refine ag (a:=some dx) (aa (ag (aa ?_)));refine wpAny_nsSet1 (s:={ s with toks:=s.toks+1 }) I.ns fun h' o5 y3=>?_
 obtain⟨oD,Vs,Vt,EH,Fd,pX⟩:=o5.count (PySem.Within.cons name v hw);refine aa (wpAny_lookBehind EH (by rw[Fd];exact pastItsLine_dict (aT pX (by rw[aB];omega))) ?_);exact ag (h _ ⟨(y3.2 _ (Ne.symm I.ne)).trans I.obj,o5,I.ne⟩ y3)
theorem OD{R:Result->Shared->Prop}{vs:List Value}{kw:List (Str×Value)}(X:K.In s.heap)(hm:PySem.W.makesIn K C=true)
  (hi:PySem.W.findIn K (.ref C) "__init__"=some (some (.ref f))) (hf:PySem.W.typeIn K (.ref f)=some (.type "function"))
  (h:codeAny (model prog w) (A.under (.builtin "type.__call__" ⟨.ref C::vs,kw⟩)) (.call (.ref f) ⟨.ref (s.heap.objs.size+1)::vs,kw⟩) (PySem.W.InitBack (s.heap.objs.size+1) R)
   { s with heap:=(s.heap.push PySem.W.emptyDict).push (PySem.W.instObj C s.heap.objs.size) }) :
  codeAny (model prog w) A (.call (.ref C) ⟨vs,kw⟩) R s:=by
 obtain⟨hh,g,d,t,os⟩:=s;exact PySem.W.make_core (PySem.W.makes_of X hm) (PySem.W.looks_findIn X hi) (fun self=>PySem.W.bind_fn X self hf) (.inl rfl) h
end
noncomputable def kF(f:Str)(v:V):List (Str×V)->List (Str×V)
 | []=>[(f,v)]
 | (g,x)::r=>if g=f then(g,v)::r else(g,x)::kF f v r
theorem Jp(f g:Str)(v:V):∀fs:List (Str×V),(kF f v fs).lookup g=if g=f then some v else fs.lookup g
 | []=>by
  show List.lookup g [(f,v)]=_;by_cases h:g=f
  ·have hb:(g==f)=true:=beq_iff_eq.mpr h;simp only[List.lookup,hb,if_pos h]
  ·have hb:(g==f)=false:=beq_eq_false_iff_ne.mpr h;simp only[List.lookup,hb,if_neg h]
 | (k,x)::r=>by
  have ih:=Jp f g v r;rw[show kF f v ((k,x)::r)=(if k=f then(k,v)::r else(k,x)::kF f v r) from rfl];by_cases hk:k=f
  ·rw[if_pos hk];by_cases h:g=k
   ·have hb:(g==k)=true:=beq_iff_eq.mpr h;simp only[List.lookup,hb,if_pos (h.trans hk)]
   ·have hb:(g==k)=false:=beq_eq_false_iff_ne.mpr h;simp only[List.lookup,hb,if_neg (fun e:g=f=>h (e.trans hk.symm))]
  ·rw[if_neg hk];by_cases h:g=k
   ·have hb:(g==k)=true:=beq_iff_eq.mpr h;simp only[List.lookup,hb,if_neg (fun e:g=f=>hk (h.symm.trans e))]
   ·have hb:(g==k)=false:=beq_eq_false_iff_ne.mpr h;simp only[List.lookup,hb];exact ih
theorem C8(f:Str)(v:V):∀fs:List (Str×V),f∈(kF f v fs).map (·.1)/\∀g,g∈fs.map (·.1)->g∈(kF f v fs).map (·.1)
 | []=>⟨by simp[kF],fun g h=>by simp at h⟩
 | (k,x)::r=>by
  obtain⟨i1,i2⟩:=C8 f v r;rw[show kF f v ((k,x)::r)=(if k=f then(k,v)::r else(k,x)::kF f v r) from rfl];by_cases hk:k=f
  ·rw[if_pos hk];subst hk;exact⟨by simp,fun g h=>by simpa using h⟩
  ·rw[if_neg hk];refine⟨?_,fun g h=>?_⟩
   ·rw[au];exact aA _ i1
   ·rw[au] at h ⊢;rcases ah.mp h with e | e
    ·exact ah.mpr (.inl e)
    ·exact aA _ (i2 g e)
theorem Jo(f:Str)(v:V):∀fs:List (Str×V),(kF f v fs).length<=fs.length+1
 | []=>by simp[kF]
 | (k,x)::r=>by
  have ih:=Jo f v r;rw[show kF f v ((k,x)::r)=(if k=f then(k,v)::r else(k,x)::kF f v r) from rfl];by_cases hk:k=f
  ·rw[if_pos hk,aB,aB];omega
  ·rw[if_neg hk,aB,aB];omega
theorem k8.some_of{v:V}{o:Option Value}(r:k8 (some v) o):∃u,o=some u/\RelV v u:=by
 cases o with
 | none=>exact(show False from r).elim
 | some u=>exact⟨u,rfl,r⟩
theorem IQ{v:V}{u:Value}(r:RelV v u):PySem.W.handedIn u=true:=by
 cases v with
 | non=>cases (show u=Value.none from r);rfl
 | bl b=>cases (show u=Value.bool b from r);rfl
 | int i=>obtain⟨t,e⟩:=(show ∃t,u=Value.int i t from r);cases e;rfl
 | str x=>obtain⟨t,e⟩:=(show ∃t,u=Value.str x t from r);cases e;rfl
 | Bu b=>obtain⟨t,e⟩:=(show ∃t,u=Value.bytes b t from r);cases e;rfl
 | Bs b=>obtain⟨t,e⟩:=(show ∃t,u=Value.float b t from r);cases e;rfl
 | ref a=>cases (show u=Value.ref a from r);rfl
 | ty n=>cases (show u=Value.type n from r);rfl
section
variable {P:Program} {w:World} {H H':Hp} {h h':Heap} {a C dx:Addr} {fs o7:List (Str×V)}
theorem Hq(cB:iQ P w H h)(e:H a=some (.ins C dx fs)):∃mA,oF h a dx C mA/\(∀f,k8 (fs.lookup f) (mA f))/\PySem.Within mA (fs.map (·.1))/\fs.length<=1000/\H dx=some (.own a):=by
 obtain⟨d,z,ne,ob,mA,n,r,q⟩:=(show dF P w H h a (.ins C dx fs) from cB a _ e)
 exact⟨mA,⟨ob,n,ne⟩,r,q,z,d⟩
end
structure ua (K:PySem.W.Frag) (C:Addr):Prop where
 pg:PySem.W.plainGet K C Str.empty=true
 hd:PySem.W.hasDictIn K C=true
 po:PySem.W.plainOver K C=true
 sa:PySem.W.findIn K (.ref C) "__setattr__"=some (some (.builtin "object.__setattr__"))
theorem ua.get{K:PySem.W.Frag}{C:Addr}(c:ua K C)(f:Str):PySem.W.plainGet K C f=true:=c.pg
def cO(K:PySem.W.Frag)(C:Addr)(f:Str):Prop:=PySem.W.findIn K (.ref C) f=some none
theorem cO.yE{K:PySem.W.Frag}{C:Addr}{f:Str}(n:cO K C f):PySem.W.takerIn K C f=some none:=by
 unfold PySem.W.takerIn;rw[show PySem.W.findIn K (.ref C) f=some none from n];rfl
section
variable {X:Cx} {pins:List (Addr×Obj)} {σ:St} {H:Hp} {s:Shared} {a C dx:Addr} {fs:List (Str×V)} {f:Str} {v:V} {A:Around} {E:Value->Shared->Prop}
theorem QQ{b:Bool}{Q:Value->Shared->Prop}(I:Inv X pins σ H s)(e:H a=some (.ins C dx fs))(c:ua X.K C)(n:cO X.K C f)(l:fs.lookup f=some v)
  (h:∀u s',Inv X pins σ H s'->RelV v u->Q u s'):wpAny (model X.prog X.w) A (getAttr (.ref a) f b) Q E s:=by
 obtain⟨mA,O,r,_,_,_⟩:=Hq I.cB e;obtain⟨u,hu,ru⟩:=k8.some_of (v:=v) (o:=mA f) (by rw[<-l];exact r f);exact NC I.i4 O (c.get f) c.hd n hu (IQ ru) (h u _ (I.tok _) ru)
theorem QP{y:V}{u:Value}{Q:Unit->Shared->Prop}(I:Inv X pins σ H s)(e:H a=some (.ins C dx fs))(c:ua X.K C)(n:cO X.K C f)(hl:fs.length<1000)(ry:RelV y u)
  (h:∀s',Inv X pins σ (upd H a (.ins C dx (kF f y fs))) s'->Q () s'):wpAny (model X.prog X.w) A (setAttr (.ref a) f u) Q E s:=by
 obtain⟨mA,O,r,wi,_,ho⟩:=Hq I.cB e;have hz:(fs.map (·.1)).length<=sizeLine:=by rw[ae,sizeLine_eq];omega
 refine NB I.i4 O c.sa c.po n.yE c.hd wi hz fun h' O' sb=>h _ ?_
 have hd:∃o,h'.get? dx=some o:=let⟨o,_,_,e',_⟩:=O'.ns;⟨o,e'⟩
 refine I.write (x:=a) (e:=dx) (by rw[e];exact True.intro) (.inr ho) (fun b q hb z=>(sb.2 b hb).trans z) hd ?_;refine⟨by rw[cN O.ne];exact ho,?_,O.ne,O'.obj,_,O'.ns,fun g=>?_,fun g hg=>?_⟩
 ·have:=Jo f y fs;omega
 ·show k8 ((kF f y fs).lookup g) (if g=f then some u else mA g);rw[Jp];by_cases q:g=f
  ·rw[if_pos q,if_pos q];exact ry
  ·rw[if_neg q,if_neg q];exact r g
 ·by_cases q:g=f
  ·rw[q];exact(C8 f y fs).1
  ·refine(C8 f y fs).2 g (wi g fun z=>hg ?_);show(if g=f then some u else mA g)=none;rw[if_neg q];exact z
theorem Inv.made(I:Inv X pins σ H s):Inv X pins σ (upd (upd H s.heap.objs.size (.own (s.heap.objs.size+1))) (s.heap.objs.size+1) (.ins C s.heap.objs.size []))
  { s with heap:=(s.heap.push PySem.W.emptyDict).push (PySem.W.instObj C s.heap.objs.size) }:=by
 have e1:(s.heap.push PySem.W.emptyDict).get? s.heap.objs.size=some PySem.W.emptyDict:=ax s.heap rfl;have e2:((s.heap.push PySem.W.emptyDict).push (PySem.W.instObj C s.heap.objs.size)).get? (s.heap.objs.size+1)=some (PySem.W.instObj C s.heap.objs.size):=by
  have:=ax (s.heap.push PySem.W.emptyDict) (o:=PySem.W.instObj C s.heap.objs.size) rfl;rwa [Heap.size_push] at this
 have e3:(s.heap.push PySem.W.emptyDict).Ns s.heap.objs.size (fun _=>none):=⟨PySem.W.emptyDict,#[],_,e1,rfl,(fun e he=>absurd he (by simp)),fun _=>rfl⟩
 have I1:=I.laid (a:=s.heap.objs.size) (o:=.own (s.heap.objs.size+1)) (h':=s.heap.push PySem.W.emptyDict) (t':=s.toks) (fun b u q=>af _ q) (aw _) ⟨_,e1⟩;refine I1.laid (a:=s.heap.objs.size+1) (o:=.ins C s.heap.objs.size []) (t':=s.toks) (fun b u q=>af _ q) (Nat.le_of_eq (Heap.size_push _ _)) ?_;have ne:s.heap.objs.size≠s.heap.objs.size+1:=aD (Nat.lt_succ_self _);refine⟨by rw[cN ne,gB],bg _,ne,e2,fun _=>none,(Heap.Ns1.of_empty e3).at fun o q=>af _ q,fun _=>True.intro,fun y hy=>absurd rfl hy⟩
theorem Hz{prog:Program}{w:World}{env:Env}{e:Expr}{f:Str}{pos:Pos}{s:Shared}{Q:Value->Shared->Prop}(hb:attributeBase e f env (eval e env)=eval e env)
  (h:wpAny (model prog w) A (eval e env) (fun o cw=>wpAny (model prog w) A (getAttr o f true) Q E cw) E s):wpAny (model prog w) A (eval (.Attribute e f pos) env) Q E s:=
 Attribute_any_ h (by rw[arm_eval_Attribute,hb])
end
def Lg(K:PySem.W.Frag)(ta:TE)(f:Str):TE:=fun σ H Q=>ta σ H fun x H1=>∃a C dx fs v,x=.ref a/\H1 a=some (.ins C dx fs)/\ua K C/\cO K C f/\fs.lookup f=some v/\Q v H1
def Lf(K:PySem.W.Frag)(ta tv:TE)(f:Str):TS:=fun D σ H=>tv σ H fun y H1=>ta σ H1 fun x H2=>∃a C dx fs,x=.ref a/\H2 a=some (.ins C dx fs)/\ua K C/\cO K C f/\fs.length<1000/\
 D.nx σ (upd H2 a (.ins C dx (kF f y fs)))
section
variable {X:Cx} {o e value:Expr} {f:Str} {pos pos' yC:Pos} {ta tv:TE}
theorem Mu(he:PE X e ta)(hb:attributeBase e f X.env (eval e X.env)=eval e X.env):PE X (.Attribute e f pos) (Lg X.K ta f):=by
 intro pins s σ H Q I h;refine Hz hb (cK (he pins s σ H _ I h) fun u s1 bV=>?_);obtain⟨x,H1,I1,rx,a,C,dx,fs,v,ex,ea,c,n,l,q⟩:=bV;subst ex;obtain rfl:u=Value.ref a:=rx;exact QQ I1 ea c n l fun u' s2 I2 ru=>⟨v,H1,I2,ru,q⟩
theorem Mt(ha:PE X o ta)(hv:PE X value tv)(hs:swapsWith value (some (.Attribute o f pos')) pos.line X.env=pure false):PS X (.Assign [.Attribute o f pos'] value pos) (Lf X.K ta tv f):=by
 intro pins s σ H D I h;refine plainObj_wpAny_Assign_Attribute (cK (hv pins s σ H _ I h) fun u s1 bV=>?_) hs;obtain⟨y,H1,I1,ry,q⟩:=bV;refine cK (ha pins s1 σ H1 _ I1 q) fun ov s2 bV=>?_
 obtain⟨x,H2,I2,rx,a,C,dx,fs,ex,ea,c,n,l,q2⟩:=bV;subst ex;obtain rfl:ov=Value.ref a:=rx;exact QP I2 ea c n l ry fun s3 I3=>⟨σ,_,I3,q2⟩
end
end L2
namespace L2
open PySem PySem.Spec PyProof.Rows
structure cT (k:Nat) (A:Around):Prop where
 hd:A.handled=none
 dp:A.depth+3*k+5<recursionLimit
 un:A.units+16*k+200<cLine
theorem cT.mono{j k:Nat}{A:Around}(r:cT k A)(h:j<=k):cT j A:=⟨r.hd,by have:=r.dp;omega,by have:=r.un;omega⟩
theorem cT.deeper{k:Nat}{A:Around}(r:cT (k+1) A)(env:Env):cT k (A.deeper env):=
 ⟨r.hd,by have:=r.dp;show A.depth+1+3*k+5<_;omega,by have:=r.un;show A.units+3+16*k+200<_;omega⟩
theorem QO{A:Around}{C:Addr}{us:List Value}{kw:List (Str×Value)}:(A.under (.builtin "type.__call__" ⟨.ref C::us,kw⟩)).depth=A.depth+1:=by
 first | rfl | simp[Around.under,Code.weight,Code.isCreation,Code.isGuard,Code.isCaller,Code.frames,Code.isFrame,guardIds]
theorem QN{A:Around}{C:Addr}{us:List Value}{kw:List (Str×Value)}:(A.under (.builtin "type.__call__" ⟨.ref C::us,kw⟩)).units=A.units+1:=by
 first | rfl | simp[Around.under,Code.cUnits,Code.frames,Code.isFrame]
theorem cT.make{k:Nat}{A:Around}(r:cT (k+1) A)(C:Addr)(us:List Value)(kw:List (Str×Value)):cT k (A.under (.builtin "type.__call__" ⟨.ref C::us,kw⟩)):=
 ⟨r.hd,by have:=r.dp;rw[QO];omega,by have:=r.un;rw[QN];omega⟩
theorem cT.depth{k:Nat}{A:Around}(r:cT k A):A.depth<recursionLimit:=by have:=r.dp;omega
theorem cT.units{k:Nat}{A:Around}(r:cT k A):A.units+64<cLine:=by have:=r.un;omega
noncomputable def F3:TA:=fun _ H Q=>Q [] H
noncomputable def Gf(ta:TE)(tr:TA):TA:=fun σ H Q=>ta σ H fun x H1=>tr σ H1 fun xs H2=>Q (x::xs) H2
section
variable {X:Cx} {e:Expr} {es:List Expr} {te:TE} {t:TA} {pos:Pos}
theorem pE:PA X [] F3:=fun _ _ _ _ H Q I h=>Calls.spliced_nil ⟨[],H,I,.nil,h⟩
theorem mK(ha:PE X e te)(hr:PA X es t)(hs:starEach (e::es) X.env=(false,eval e X.env)::starEach es X.env:=by rfl):PA X (e::es) (Gf te t):=by
 intro pos pins s σ H Q I h;rw[hs];show wpAny _ _ (spliced ((false,eval e X.env)::backTo pos (starEach es X.env))) _ _ s;refine Calls.spliced_cons (cK (ha pins s σ H _ I h) fun u s1 bV=>?_);obtain⟨x,H1,I1,r1,q1⟩:=bV;exact cK (hr pos pins s1 σ H1 _ I1 q1) fun us s2 bV=>by obtain⟨xs,H2,I2,r2,q2⟩:=bV;exact⟨x::xs,H2,I2,.cons r1 r2,q2⟩
def Le(t:TA):TE:=fun σ H Q=>t σ H fun xs H1=>xs.length<=sizeLine/\∀p,H1 p=none->Q (.ref p) (upd H1 p (.tup xs))
def Ld(t:TA):TE:=fun σ H Q=>t σ H fun xs H1=>xs.length<=sizeLine/\∀p,H1 p=none->Q (.ref p) (upd H1 p (.lst xs))
theorem Gu{x1}(h:PA X es t):PE X (.Tuple es x1 pos) (Le t):=by
 intro pins s σ H Q I hq;refine wpAny_Tuple_spliced (cK (h pos pins s σ H _ I hq) fun us s1 ⟨xs,H1,I1,r,z,q⟩=>⟨by rw[<-r.length];exact z,?_⟩);have hf:H1 s1.heap.objs.size=none:=I1.cB.fresh (aw _);refine⟨.ref s1.heap.objs.size,upd H1 s1.heap.objs.size (.tup xs),I1.laid (t':=s1.toks) (fun b u e=>af _ e) (aw _) ?_,rfl,q _ hf⟩;exact⟨z,us,r,⟨_,ax _ rfl,rfl,_,rfl⟩⟩
theorem Ms(h:PA X es t):PE X (.List es pos) (Ld t):=by
 intro pins s σ H Q I hq;refine wpAny_List_spliced (cK (h pos pins s σ H _ I hq) fun us s1 ⟨xs,H1,I1,r,z,q⟩=>⟨by rw[<-r.length];exact z,?_⟩);have hf:H1 s1.heap.objs.size=none:=I1.cB.fresh (aw _);refine⟨.ref s1.heap.objs.size,upd H1 s1.heap.objs.size (.lst xs),I1.laid (t':=s1.toks) (fun b u e=>af _ e) (aw _) ?_,rfl,q _ hf⟩;exact⟨z,us,0,r,ax _ rfl⟩
end
noncomputable abbrev Sp:=List V->Hp->VK->XK->Prop
noncomputable abbrev qT:=List Env->Hp->Shared->XK->Value->Shared->Prop
structure ng (P:Program) (w:World) (K:PySem.W.Frag) (mg:Str->Option Value) (base:Heap) (A:Around) (outer:List Env) (s:Shared) (H:Hp):Prop where
 frames:A.frames=some outer
 mod:Mod K mg base
 bs:∀b o,base.get? b=some o->s.heap.get? b=some o/\H b=none
 sC:base.objs.size<=s.heap.objs.size
 gC:s.heap.FunFrames base outer
 qd:∀b∈ig outer,H b=none
 cB:iQ P w H s.heap
 bare:AllBare s.gens
def CE(outer:List Env)(P:Program)(w:World)(H:Hp)(s:Shared)(Q:VK)(u:Value)(s':Shared):Prop:=
 ∃v H',s'.os=s.os/\AllBare s'.gens/\Un (ig outer) [] H H' s.heap s'.heap/\iQ P w H' s'.heap/\RelV v u/\Q v H'
def CR(CX:qT)(outer:List Env)(P:Program)(w:World)(H:Hp)(s:Shared)(Q:VK)(E:XK)(r:Result)(s':Shared):Prop:=
 match r with
 | .ok (.ret u)=>CE outer P w H s Q u s'
 | .ok _=>False
 | .error e=>CX outer H s E e s'
structure fW (P:Program) (w:World) (K:PySem.W.Frag) (mg:Str->Option Value) (base:Heap) (CX:qT) (k:Nat) (f:Addr) (fd:FuncData) (ps:List Str) (sp:Sp):Prop where
 len:∀vs H Q E,sp vs H Q E->vs.length=ps.length
 run:∀(A:Around) (outer:List Env) (s:Shared) (H:Hp) (args:Args) (us:List Value) (vs:List V) (Q:VK) (E:XK),cT k A->ng P w K mg base A outer s H->BindsTo s fd args (ps.zip us)->Vals vs us->sp vs H Q E->
  codeAny (model P w) A (.call (.ref f) args) (CR CX outer P w H s Q E) s
theorem ng.make{P:Program}{w:World}{K:PySem.W.Frag}{mg:Str->Option Value}{base:Heap}{A:Around}{outer:List Env}{s:Shared}{H:Hp}(e:ng P w K mg base A outer s H)(C:Addr)(us:List Value)(kw:List (Str×Value)) :
  ng P w K mg base (A.under (.builtin "type.__call__" ⟨.ref C::us,kw⟩)) outer s H:=⟨by first | exact e.frames | (simpa[Around.under,Code.envs,Code.isFrame,pushEnvs] using e.frames),e.mod,e.bs,e.sC,e.gC,e.qd,e.cB,e.bare⟩
section
variable {X:Cx} {pins:List (Addr×Obj)} {σ:St} {H:Hp} {s s':Shared}
theorem Inv.mZ(I:Inv X pins σ H s):ng X.prog X.w X.K X.mg X.base X.A X.stack s H:=
 ⟨I.ok.frames,I.ok.mod,I.bs,aT I.ok.sC I.sz,I.stack,I.nE,I.cB,I.bare⟩
theorem Inv.after{Q:VK}{u:Value}(I:Inv X pins σ H s)(h:CE X.stack X.prog X.w H s Q u s'):EP X pins σ Q u s':=by
 obtain⟨v,H',os,bare,un,cB,r,q⟩:=h;obtain⟨hh,g,d,t,uF⟩:=s';obtain rfl:uF=s.os:=os;exact⟨v,H',I.call (h':=hh) (g':=g) (d':=d) (t':=t) (ch:=[]) un cB bare (fun b z=>absurd z (by simp)),r,q⟩
end
def L5(sp:Sp)(m6:List V)(E:XK)(t:TA):TE:=fun σ H Q=>t σ H fun vs H1=>sp (vs++m6) H1 Q E
def L4(C:Addr)(sp:Sp)(m6:List V)(E:XK)(t:TA):TE:=fun σ H Q=>t σ H fun vs H1=>∀x dx,H1 x=none->H1 dx=none->dx≠x->
 sp (.ref x::(vs++m6)) (upd (upd H1 dx (.own x)) x (.ins C dx [])) (fun v H2=>v=.non/\Q (.ref x) H2) E
def Binds(K:PySem.W.Frag)(fd:FuncData)(ps:List Str)(ds:List Value):Prop:=
 ∀(s:Shared) (us:List Value),K.In s.heap->(us++ds).length=ps.length->BindsTo s fd ⟨us,[]⟩ (ps.zip (us++ds))
theorem Binds.all{K:PySem.W.Frag}{fd:FuncData}{ps:List Str}(h:∀us:List Value,us.length=ps.length->bindArgs fd ⟨us,[]⟩=pure (ps.zip us)):Binds K fd ps []:=fun s us _ hl=>by
 rw[aM] at hl ⊢;exact .of_eq (h us hl)
def vx(CX:qT)(X:Cx)(E:XK):Prop:=∀(pins:List (Addr×Obj)) (σ:St) (H:Hp) (s:Shared) (e:Value) (s':Shared),Inv X pins σ H s->CX X.stack H s E e s'->X.xe e s'
section
variable {X:Cx} {CX:qT} {k:Nat} {f C:Addr} {fd:FuncData} {ps:List Str} {sp:Sp} {m6:List V} {ds:List Value} {E:XK} {x m:Str} {p pos apos:Pos} {e o:Expr} {es:List Expr} {ta:TE} {t:TA}
theorem Mr{pins:List (Addr×Obj)}{σ:St}{H:Hp}{s:Shared}{Q:VK}{us:List Value}{vs:List V}(F:fW X.prog X.w X.K X.mg X.base CX k f fd ps sp)(hr:cT k X.A)(hb:Binds X.K fd ps ds)(hd:Vals m6 ds)(hx:vx CX X E)
  (I:Inv X pins σ H s) (r:Vals vs us) (h:sp (vs++m6) H Q E):wpAny (model X.prog X.w) X.A (call (.ref f) us) (EP X pins σ Q) X.xe s:=by
 have r2:Vals (vs++m6) (us++ds):=r.append hd;have hl:(us++ds).length=ps.length:=by rw[<-r2.length];exact F.len _ _ _ _ h
 refine wpAny_call (codeAny_mono (F.run X.A X.stack s H ⟨us,[]⟩ (us++ds) (vs++m6) Q E hr I.mZ (hb s us I.i4 hl) r2 h) fun r s' hq=>?_);cases r with
 | error e=>exact hx pins σ H s e s' I hq
 | ok fl=>
  cases fl with
  | ret u=>exact I.after hq
  | next=>exact False.elim hq
  | brk=>exact False.elim hq
  | cont=>exact False.elim hq
theorem Ap(F:fW X.prog X.w X.K X.mg X.base CX k f fd ps sp)(hr:cT k X.A)(hg:Gl X x)(hm:X.mg x=some (.ref f))(hk:PySem.W.keepIn X.K (.ref f)=true)(hb:Binds X.K fd ps ds)(hd:Vals m6 ds)(hx:vx CX X E)
  (ha:PA X (e::es) t) (js:(x==("__debug__":Str))=false:=by decide) (he:starEach (e::es) X.env=(false,eval e X.env)::starEach es X.env:=by rfl) (fR:(backTo pos (starEach es X.env)).any (·.1)=false:=by rfl) :
  PE X (.Call (.Name x p) (e::es) [] pos) (L5 sp m6 E t):=by
 intro pins s σ H Q I h;refine wpAny_Call_Name_kw (um I hg hm ?_ js);refine PySem.W.callWith_K (h₀:=X.base) I.ok.mod.wg hk (cK (ha pos pins s σ H _ I h) fun us s1 bV=>?_) he fR;obtain⟨vs,H1,I1,r,q⟩:=bV;refine⟨I1.i4,?_⟩;exact Mr F hr hb hd hx I1 r q
structure Mk (K:PySem.W.Frag) (C f:Addr):Prop where
 makes:PySem.W.makesIn K C=true
 init:PySem.W.findIn K (.ref C) "__init__"=some (some (.ref f))
 fn:PySem.W.isFn K (.ref f)=true
 kp:PySem.W.keepIn K (.ref C)=true
theorem OC{pins:List (Addr×Obj)}{σ:St}{H:Hp}{s:Shared}{Q:VK}{us:List Value}{vs:List V}(M:Mk X.K C f)(F:fW X.prog X.w X.K X.mg X.base CX k f fd ps sp)(hr:cT (k+1) X.A)(hb:Binds X.K fd ps ds)(hd:Vals m6 ds)
  (hx:vx CX X E) (I:Inv X pins σ H s) (r:Vals vs us)
  (h:∀x dx,H x=none->H dx=none->dx≠x->sp (.ref x::(vs++m6)) (upd (upd H dx (.own x)) x (.ins C dx [])) (fun v H2=>v=.non/\Q (.ref x) H2) E) :
  wpAny (model X.prog X.w) X.A (call (.ref C) us) (EP X pins σ Q) X.xe s:=by
 have hq:=h (s.heap.objs.size+1) s.heap.objs.size (I.cB.fresh (bp _)) (I.cB.fresh (aw _)) (aD (Nat.lt_succ_self _));have I2:=Inv.made (C:=C) I;have r2:Vals (V.ref (s.heap.objs.size+1)::(vs++m6)) (Value.ref (s.heap.objs.size+1)::(us++ds)):=.cons rfl (r.append hd);have hl:(Value.ref (s.heap.objs.size+1)::us++ds).length=ps.length:=by
  have e:=r2.length;rw[F.len _ _ _ _ hq] at e;exact e.symm
 refine wpAny_call (OD (f:=f) I.i4 M.makes M.init (beq_iff_eq.mp M.fn) (codeAny_mono (F.run _ X.stack _ _ ⟨Value.ref (s.heap.objs.size+1)::us,[]⟩ (Value.ref (s.heap.objs.size+1)::(us++ds)) _ _ E (hr.make C us [])
  (I2.mZ.make C us []) (hb _ (Value.ref (s.heap.objs.size+1)::us) I2.i4 hl) r2 hq) fun r s' kY=>?_))
 cases r with
 | error e=>exact hx pins σ _ _ e s' I2 kY
 | ok fl=>
  cases fl with
  | ret u=>
   obtain⟨v,H',I3,rv,ev,q3⟩:=I2.after kY;subst ev;exact⟨rv,⟨V.ref (s.heap.objs.size+1),H',I3,rfl,q3⟩⟩
  | next=>exact False.elim kY
  | brk=>exact False.elim kY
  | cont=>exact False.elim kY
theorem Nz(M:Mk X.K C f)(F:fW X.prog X.w X.K X.mg X.base CX k f fd ps sp)(hr:cT (k+1) X.A)(hg:Gl X x)(hm:X.mg x=some (.ref C))(hb:Binds X.K fd ps ds)(hd:Vals m6 ds)(hx:vx CX X E)
  (ha:PA X (e::es) t) (js:(x==("__debug__":Str))=false:=by decide) (he:starEach (e::es) X.env=(false,eval e X.env)::starEach es X.env:=by rfl) (fR:(backTo pos (starEach es X.env)).any (·.1)=false:=by rfl) :
  PE X (.Call (.Name x p) (e::es) [] pos) (L4 C sp m6 E t):=by
 intro pins s σ H Q I h;refine wpAny_Call_Name_kw (um I hg hm ?_ js);refine PySem.W.callWith_K (h₀:=X.base) I.ok.mod.wg M.kp (cK (ha pos pins s σ H _ I h) fun us s1 bV=>?_) he fR;obtain⟨vs,H1,I1,r,q⟩:=bV;refine⟨I1.i4,?_⟩;exact OC M F hr hb hd hx I1 r q
end
structure bI (N P:List Str) (sc:Scope):Prop where
 kind:sc.kind=.function
 co:sc.isCoroutine=false
 gen:sc.isGenerator=false
 nd:N.Nodup
 pre:N.take P.length=P
 par:∀x∈P,sc.names.lookup x=some .local\/sc.names.lookup x=some .cell
 uI:∀y∈sc.names,y.2≠.free
theorem IP{kindOf:Str->Option NameKind}{x:Str}:∀{binds:List (Str×Value)} {m:Str->Option Value},(∀v,(x,v)∉binds)->bindL kindOf binds m x=m x
 | [],_,_=>rfl
 | (n,v)::r,m,h=>by
  unfold bindL;rw[IP fun w hw=>h w (aA _ hw)];split
  ·have:x≠n:=by rintro rfl;exact h v bj
   simp[this]
  ·rfl
theorem IM{kindOf:Str->Option NameKind}{x:Str}:∀{binds:List (Str×Value)} {m:Str->Option Value},(∀v,(x,v)∉binds)->bindC kindOf binds m x=m x
 | [],_,_=>rfl
 | (n,v)::r,m,h=>by
  unfold bindC;rw[IM fun w hw=>h w (aA _ hw)];split
  ·rfl
  ·have:x≠n:=by rintro rfl;exact h v bj
   simp[this]
theorem IL{kindOf:Str->Option NameKind}{x:Str}{v:Value}:∀{P:List Str} {vs:List Value} {i:Nat} {m:Str->Option Value},P.Nodup->P[i]?=some x->vs[i]?=some v->kindOf x=some .local->
  bindL kindOf (P.zip vs) m x=some v
 | [],_,_,_,_,h,_,_=>by simp at h
 | _::_,[],_,_,_,_,h,_=>by simp at h
 | p::P,w::vs,0,m,nd,h1,h2,hk=>by
  simp at h1 h2;subst h1;subst h2;show bindL kindOf ((p,w)::P.zip vs) m p=_;unfold bindL;rw[IP fun v hv=>(aY.mp nd).1 (List.of_mem_zip hv).1,if_pos hk];simp
 | p::P,w::vs,i+1,m,nd,h1,h2,hk=>by
  show bindL kindOf ((p,w)::P.zip vs) m x=_;unfold bindL;exact IL (i:=i) (aY.mp nd).2 (by simpa using h1) (by simpa using h2) hk
theorem IK{kindOf:Str->Option NameKind}{x:Str}{v:Value}:∀{P:List Str} {vs:List Value} {i:Nat} {m:Str->Option Value},P.Nodup->P[i]?=some x->vs[i]?=some v->kindOf x≠some .local->
  bindC kindOf (P.zip vs) m x=some v
 | [],_,_,_,_,h,_,_=>by simp at h
 | _::_,[],_,_,_,_,h,_=>by simp at h
 | p::P,w::vs,0,m,nd,h1,h2,hk=>by
  simp at h1 h2;subst h1;subst h2;show bindC kindOf ((p,w)::P.zip vs) m p=_;unfold bindC;rw[IM fun v hv=>(aY.mp nd).1 (List.of_mem_zip hv).1,if_neg hk];simp
 | p::P,w::vs,i+1,m,nd,h1,h2,hk=>by
  show bindC kindOf ((p,w)::P.zip vs) m x=_;unfold bindC;exact IK (i:=i) (aY.mp nd).2 (by simpa using h1) (by simpa using h2) hk
noncomputable def j3(N:List Str)(vs:List V):St:=vs.map some++List.replicate (N.length-vs.length) none
noncomputable def jl(CX:qT)(P:Program)(w:World)(K:PySem.W.Frag)(mg:Str->Option Value)(base:Heap)(N:List Str)(qual:Str)(scope:Scope)(f:Addr)(cd:Value)(A:Around)(outer:List Env)(s:Shared)(H:Hp)(E:XK):Cx where
 prog:=P
 w:=w
 K:=K
 mg:=mg
 base:=base
 A:=A.deeper (envOfC qual scope s.heap.objs.size f cd)
 N:=N
 cS:=s
 oG:=H
 env:=envOfC qual scope s.heap.objs.size f cd
 outer:=outer
 stack:=envOfC qual scope s.heap.objs.size f cd::outer
 ex:=[]
 calm:=true
 fn:=fun _=>true
 pn:=[]
 xe:=fun e s'=>wpAny (model P w) (A.deeper (envOfC qual scope s.heap.objs.size f cd)) (leaving (envOfC qual scope s.heap.objs.size f cd) e) (fun _ wc=>CX outer H s E e wc) (fun e' wc=>CX outer H s E e' wc) s'
theorem IC{sc:Scope}{n:Nat}{x:Str}(h:sc.names.lookup x=some .cell):∃c,(cellsFrom n sc.names []).lookup x=some c:=by
 have q:=PySem.W.cellsFrom_some sc.names n [] (.inl h);exact Option.isSome_iff_exists.mp q
theorem Qs{CX:qT}{P:Program}{w:World}{K:PySem.W.Frag}{mg:Str->Option Value}{base:Heap}{N ps:List Str}{qual:Str}{scope:Scope}{f:Addr}{cd:Value}{A:Around}{outer:List Env}{s s1:Shared}{H:Hp}{E:XK}{us:List Value}{vs:List V}
  (S:bI N ps scope) (hd:A.handled=none) (e0:ng P w K mg base A outer s H) (hl:vs.length=ps.length) (r:Vals vs us)
  (x:InCallC s s.heap.objs.size (bindL (envOfC qual scope s.heap.objs.size f cd).kindOf (ps.zip us) fun _=>none) (cellsFrom (s.heap.objs.size+1) scope.names []) (bindC (envOfC qual scope s.heap.objs.size f cd).kindOf (ps.zip us) fun _=>none) s1) :
  Inv (jl CX P w K mg base N qual scope f cd A outer s H E) [] (j3 N vs) H s1:=by
 have fR:ps.length<=N.length:=by have:=congrArg List.length S.pre;rw[aP] at this;omega
 obtain⟨h1,tk,rfl,hk⟩:=x.done;have yQ:∀b:Addr,b∉(jl CX P w K mg base N qual scope f cd A outer s H E).ex:=fun b z=>absurd (show b∈([]:List Addr) from z) (by simp)
 refine⟨⟨e0.mod,S.kind,rfl,rfl,aw _,fun y z c h1 h2=>?_,fun y hy=>?_,fun y c _ h=>?_,fun _=>hd,Around.frames_deeper e0.frames,.inr ⟨rfl,rfl⟩,fun b z=>absurd z (yQ b),e0.bs,e0.sC,fun b _ _=>yQ b,fun b z=>absurd z (yQ b),e0.gC,e0.qd⟩,
  rfl,e0.bare,Un.kept hk,⟨_,x.toInCall.ns,fun i y v h1 h2 h3=>?_⟩,fun y c h=>⟨_,x.cell y c h⟩,e0.cB.fresh (aw _),fun y c h=>?_,fun p hp=>absurd (show p∈([]:List (Addr×Obj)) from hp) (by simp),e0.cB.kept hk,?_⟩
 ·exact name_of_addr x.apart (PySem.mem_of_lookup h1) (PySem.mem_of_lookup h2)
 ·have hy:scope.names.lookup y=some .cell\/scope.names.lookup y=some .free:=hy;rcases hy with hy | hy
  ·exact IC hy
  ·exact absurd rfl (S.uI _ (PySem.mem_of_lookup hy))
 ·exact Nat.le_of_lt (x.above y c (PySem.mem_of_lookup h))
 ·have hi:i<vs.length:=by
   unfold j3 at h2;by_cases hi:i<vs.length
   ·exact hi
   ·rw[List.getElem?_append_right (by simpa using hi)] at h2;rw[List.getElem?_replicate] at h2;split at h2<;>cases h2
  have ha:vs[i]?=some v:=by
   unfold j3 at h2;rw[List.getElem?_append_left (by simpa using hi),aR] at h2;cases e:vs[i]? with
   | none=>rw[e] at h2;cases h2
   | some a=>rw[e] at h2;cases h2;rfl
  obtain⟨u,hu,rv⟩:=r.get ha;have hp:ps[i]?=some y:=by
   rw[<-S.pre,List.getElem?_take_of_lt (by omega)];exact h1
  have JN:ps.Nodup:=by rw[<-S.pre];exact S.nd.sublist (List.take_sublist _ _)
  refine⟨u,rv,?_⟩;rcases S.par y (List.mem_of_getElem? hp) with k | k
  ·exact .inl ⟨k,IL JN hp hu k⟩
  ·obtain⟨c,e⟩:=IC (n:=s.heap.objs.size+1) k;refine .inr ⟨.inl k,c,e,?_⟩;have q:=x.cell y c e;rw[IK JN hp hu (by show scope.names.lookup y≠_;rw[k];decide)] at q;exact q
 ·exact e0.cB.fresh (Nat.le_of_lt (x.above y c (PySem.mem_of_lookup h)))
 ·unfold j3;show _=N.length;rw[aj,ae,List.length_replicate];omega
theorem Gm{CX:qT}{P:Program}{w:World}{K:PySem.W.Frag}{mg:Str->Option Value}{base:Heap}{k:Nat}{f:Addr}{name qual:Str}{params:Arguments}{body:List Stmt}{scope:Scope}{dV kV doc pm cf ct oc:Value}{an od:Option Addr}
  {nI:Array (Option Value)} {N ps:List Str} {sp:Sp} (lk:K.lookup f=some ⟨oc,od,.func (PySem.W.fnOf name qual params body scope dV kV doc pm an cf ct),nI⟩) (iO:PySem.W.codeIn K cf qual=true) (S:bI N ps scope)
  (len:∀vs H Q E,sp vs H Q E->vs.length=ps.length)
  (pZ:∀(A:Around) (outer:List Env) (s:Shared) (H:Hp) (vs:List V) (Q:VK) (E:XK),cT k (A.deeper (envOfC qual scope s.heap.objs.size f cf))->sp vs H Q E->
   ∃t,la (jl CX P w K mg base N qual scope f cf A outer s H E) body t/\t { nx:=fun _ H'=>Q .non H',rt:=Q } (j3 N vs) H) :
  fW P w K mg base CX (k+1) f (PySem.W.fnOf name qual params body scope dV kV doc pm an cf ct) ps sp:=by
 refine⟨len,fun A outer s H args us vs Q E hr e0 hb r wq=>?_⟩;have hl:=len _ _ _ _ wq;have KX:K.In s.heap:=e0.mod.wg.keeps fun b o e=>(e0.bs b o e).1
 have lim:s.heap.NoLimit:=e0.mod.nolimit.keeps fun b o e=>(e0.bs b o e).1
 have nO:∀y∈ps.zip us,scope.names.lookup y.1=some .local\/(scope.names.lookup y.1=some .cell/\((cellsFrom (s.heap.objs.size+1) scope.names []).lookup y.1).isSome=true):=fun⟨n,v⟩ hy=>by
  rcases S.par n (List.of_mem_zip hy).1 with q | q
  ·exact .inl q
  ·exact .inr ⟨q,PySem.W.cellsFrom_some _ _ _ (.inl q)⟩
 refine codeAny_call_function hr.depth (KX _ _ lk) rfl S.co S.gen rfl (PySem.W.codeRec_of KX iO) (hb _ _ _ _ ?_);refine wpAny_newFunctionEnv_cells S.kind nO fun env he s1 x=>?_
 subst he;refine⟨lim.keeps x.toInCall.keep,codeAny_func ?_⟩;obtain⟨t,ht,hq⟩:=pZ A outer s H vs Q E (hr.deeper _) wq;have I:Inv (jl CX P w K mg base N qual scope f cf A outer s H E) [] (j3 N vs) H s1:=Qs S hr.hd e0 hl r x;refine bc (ht [] s1 (j3 N vs) H _ I hq) (fun fl s' hs=>?_) fun e s' hs=>hs
 have fin:∀{cc:St} {H':Hp} {v:V} {u:Value},Inv (jl CX P w K mg base N qual scope f cf A outer s H E) [] cc H' s'->RelV v u->Q v H'->CE outer P w H s Q u s':=
  fun{cc H' v u} J rv q=>⟨v,H',J.os,J.bare,J.base,J.cB,rv,q⟩
 cases fl with
 | ret u=>
  obtain⟨v,cc,H',J,rv,q⟩:=hs;exact fin J rv q
 | next=>
  obtain⟨cc,H',J,q⟩:=hs;exact fin (v:=V.non) (u:=Value.none) J rfl q
 | brk=>
  obtain⟨_,_,_,q⟩:=hs;exact False.elim q
 | cont=>
  obtain⟨_,_,_,q⟩:=hs;exact False.elim q
end L2
namespace L2
open PySem PySem.Spec PyProof.Rows
section
variable {X:Cx} {x:Str} {p pos:Pos} {e:Expr} {es:List Expr} {t:TA} {id T:String} {r:List V->Hp->VK->Prop}
def DR(r:List V->Hp->VK->Prop)(t:TA):TE:=fun σ H Q=>t σ H fun vs H1=>r vs H1 Q
theorem vQ(hc:c8 X (.builtin id) r)(hg:Gl X x)(hm:X.mg x=none)(hv:bootBuiltins x=some (.builtin id))(ha:PA X (e::es) t)(hn:x≠"__name__":=by decide)(js:(x==("__debug__":Str))=false:=by decide)
  (he:starEach (e::es) X.env=(false,eval e X.env)::starEach es X.env:=by rfl) (fR:(backTo pos (starEach es X.env)).any (·.1)=false:=by rfl):PE X (.Call (.Name x p) (e::es) [] pos) (DR r t):=by
 intro pins s σ H Q I h;refine wpAny_Call_Name_kw (uj I hg hm hv ?_ hn js);exact PyProof.Rows.callWith_builtin1 (cK (ha pos pins s σ H _ I h) fun us s1 bV=>by obtain⟨vs,H1,I1,r1,q1⟩:=bV;exact hc pins s1 σ H1 vs us Q I1 r1 q1) he fR
theorem IJ(hc:c8 X (.type T) r)(hg:Gl X x)(hm:X.mg x=none)(hv:bootBuiltins x=some (.type T))(ha:PA X (e::es) t)(hn:x≠"__name__":=by decide)(js:(x==("__debug__":Str))=false:=by decide)
  (he:starEach (e::es) X.env=(false,eval e X.env)::starEach es X.env:=by rfl) (fR:(backTo pos (starEach es X.env)).any (·.1)=false:=by rfl):PE X (.Call (.Name x p) (e::es) [] pos) (DR r t):=by
 intro pins s σ H Q I h;refine wpAny_Call_Name_kw (uj I hg hm hv ?_ hn js);exact PyProof.Rows.callWith_type1 (cK (ha pos pins s σ H _ I h) fun us s1 bV=>by obtain⟨vs,H1,I1,r1,q1⟩:=bV;exact hc pins s1 σ H1 vs us Q I1 r1 q1) he fR
end
end L2
namespace HT
open PySem PyProof.Rows
section
variable {prog:Program} {w:World} {A:Around} {E:Value->Shared->Prop} {s:Shared}
noncomputable def dz(n d:Nat):Option Int->Nat
 | none=>d
 | some v=>if v<0 then(v+(n:Int)).toNat else min v.toNat n
theorem iW(n d:Nat)(hd:d<=n)(o:Option Int):dz n d o<=n:=by
 cases o with
 | none=>exact hd
 | some v=>
  show(if v<0 then(v+(n:Int)).toNat else min v.toNat n)<=n;by_cases hv:v<0
  ·rw[if_pos hv];omega
  ·rw[if_neg hv];exact Nat.min_le_right _ _
theorem k7(v:Int)(n d:Nat):(if v<0 then max (v+(n:Int)) 0 else min v (n:Int))=((dz n d (some v):Nat):Int):=by
 show(if v<0 then max (v+(n:Int)) 0 else min v (n:Int))=(((if v<0 then(v+(n:Int)).toNat else min v.toNat n):Nat):Int)
 by_cases hv:v<0
 ·simp only[if_pos hv];omega
 ·simp only[if_neg hv];omega
theorem QM(lo hi:Option Int)(n:Nat):Builtin.Slice.sliceAdjust lo hi 1 (n:Int)=(((dz n 0 lo:Nat):Int),((dz n n hi:Nat):Int)):=by
 have h1:¬((1:Int)<0):=by omega
 unfold Builtin.Slice.sliceAdjust;simp only[h1,aX];refine Prod.ext ?_ ?_
 ·cases lo with
  | none=>rfl
  | some v=>exact k7 v n 0
 ·cases hi with
  | none=>rfl
  | some v=>exact k7 v n n
theorem QL(i j:Nat):Builtin.Slice.slicePlaces (i:Int) (j:Int) 1=j-i:=by
 unfold Builtin.Slice.slicePlaces;have h1:(1:Int)>0:=by omega
 simp only[h1,bh,Int.ediv_one];split<;>omega
theorem Jb{v:Value}{o:Option Int}{Q:Option Int->Shared->Prop}(p:IsPart v o)(h:Q o s):wpAny (model prog w) A (Builtin.Slice.slicePartIndex v) Q E s:=by
 cases p with
 | none=>exact slicePart_none h
 | int i t=>exact slicePart_int h
theorem SD{sl:Addr}{vl vu:Value}{lo hi:Option Int}{n:Nat}{Q:Int×Int×Nat->Shared->Prop}(hs:s.heap.IsSliceOf sl vl vu .none)(pl:IsPart vl lo)(pu:IsPart vu hi)
  (h:Q (((dz n 0 lo:Nat):Int),1,dz n n hi-dz n 0 lo) s):wpAny (model prog w) A (Builtin.Slice.sliceApplied (.ref sl) (pure (n:Int))) Q E s:=by
 obtain⟨os,y8,Kj,Bp⟩:=id hs;unfold Builtin.Slice.sliceApplied Builtin.Slice.sliceFields;refine aa (aa (wpAny_field y8 Bp (x:=vl) rfl (aa (wpAny_field y8 Bp (x:=vu) rfl (aa (wpAny_field y8 Bp (x:=.none) rfl (ag ?_)))))));refine aa (slicePart_none ?_);show wpAny _ _ (if ((1:Int)==0)=true then _ else _) _ _ s;rw[if_neg (by decide)];refine aa (Jb pl (aa (Jb pu (aa (ag ?_)))));show wpAny _ _ (match Builtin.Slice.sliceAdjust lo hi 1 (n:Int) with | (lo,hi)=>pure (lo,(1:Int),Builtin.Slice.slicePlaces lo hi 1)) _ _ s;rw[QM lo hi n];show wpAny _ _ (pure (((dz n 0 lo:Nat):Int),(1:Int),Builtin.Slice.slicePlaces ((dz n 0 lo:Nat):Int) ((dz n n hi:Nat):Int) 1)) _ _ s;rw[QL];exact ag h
theorem OB(xs:Array Value)(i k:Nat):((List.range k).filterMap fun(m:Nat)=>xs[((i:Int)+(m:Int)*1).toNat]?).toArray=((xs.toList.drop i).take k).toArray:=by
 have e:(fun(m:Nat)=>xs[((i:Int)+(m:Int)*1).toNat]?)=fun m=>xs[i+m]?:=by
  funext m
  have:((i:Int)+(m:Int)*1).toNat=i+m:=by omega
  rw[this]
 rw[e];have:=pick_run xs i k;rw[List.filterMap_map] at this;have e2:((fun x=>xs[x]?)∘fun x=>i+x)=fun m=>xs[i+m]?:=rfl
 rw[e2] at this;rw[this]
theorem iG{t sl:Addr}{items:Array Value}{vl vu:Value}{lo hi:Option Int}{Q:Value->Shared->Prop}(ht:IsTup s.heap t items)(hs:s.heap.IsSliceOf sl vl vu .none)(pl:IsPart vl lo)(pu:IsPart vu hi)
  (hw:¬(dz items.size 0 lo=0/\dz items.size items.size hi=items.size))
  (h:Q (.ref s.heap.objs.size) { s with heap:=s.heap.push { cls:=.type "tuple",data:=.seq ((items.toList.drop (dz items.size 0 lo)).take (dz items.size items.size hi-dz items.size 0 lo)).toArray } })
  (i5:items.size<=sizeLine):wpAny (model prog w) A (getItem (.ref t) (.ref sl)) Q E s:=by
 have nK:sizeOk (.seq ((items.toList.drop (dz items.size 0 lo)).take (dz items.size items.size hi-dz items.size 0 lo)).toArray):=by
  show((items.toList.drop (dz items.size 0 lo)).take (dz items.size items.size hi-dz items.size 0 lo)).toArray.size<=sizeLine;rw[ar,aP,List.length_drop,aG];omega
 have hj:dz items.size items.size hi<=items.size:=iW _ _ (aw _) hi;obtain⟨os,y8,Kj,Bp⟩:=id hs;have U6:s.TypeIs (.ref sl) "slice":=⟨os,y8,Kj⟩
 unfold getItem;try with_reducible refine aQ ?_
 first | refine aa (ag ?_) | skip
 refine aa (wpAny_sequenceKey ht.typeIs (by decide) ?_);refine aa (wpAny_callSpecial?_slot (name:=Str.ofString "__getitem__") ht.typeIs PyProof.Rows.slot_tuple_getitem
  (wpAny_call_entry PyProof.Rows.slot_tuple_getitem ht.typeIs entry_tuple_getitem ?_ (args_tuple_getitem _ _)))
 show wpAny _ _ (Builtin.Tuple.tupleItemsOf (.ref t) >>= _) _ _ s;refine aa (tupleItemsOf_ ht ?_);refine aa (wpAny_typeOf U6 ?_);rw[if_pos (by decide)];refine aa (SD hs pl pu ?_);have r8:¬((((dz items.size 0 lo:Nat):Int)==0&&(1:Int)==1&&(dz items.size items.size hi-dz items.size 0 lo)==items.size)=true):=by
  intro q;rw[Bool.and_eq_true,Bool.and_eq_true] at q;have q1:((dz items.size 0 lo:Nat):Int)=0:=eq_of_beq q.1.1;have q2:dz items.size items.size hi-dz items.size 0 lo=items.size:=eq_of_beq q.2;exact hw ⟨by omega,by omega⟩
 show wpAny _ _ (if (((dz items.size 0 lo:Nat):Int)==0&&(1:Int)==1&&(dz items.size items.size hi-dz items.size 0 lo)==items.size)=true then _ else _) _ _ s;rw[if_neg r8,OB];first
  | exact aa (m:=Builtin.Tuple.tupleExact _) (wpAny_newObj_type (ag ⟨_,rfl,ag h⟩) nK)
  | exact aa (m:=Builtin.Tuple.tupleExact _) (wpAny_newObj_type (aa (ag (ag ⟨_,rfl,ag h⟩))) nK)
  | exact aa (aa (m:=Builtin.Tuple.tupleExact _) (wpAny_newObj_type (ag (ag ⟨_,rfl,ag h⟩)) nK))
  | exact aa (aa (m:=Builtin.Tuple.tupleExact _) (wpAny_newObj_type (ag ⟨_,rfl,ag h⟩) nK))
end
end HT
namespace L2
open PySem PySem.Spec PyProof.Rows
noncomputable abbrev TO:=St->Hp->(Option Int->Hp->Prop)->Prop
def PO(X:Cx)(e:Option Expr)(t:TO):Prop:=
 ∀(pins:List (Addr×Obj)) (s:Shared) (σ:St) (H:Hp) (Q:Option Int->Hp->Prop),Inv X pins σ H s->t σ H Q->
  wpAny (model X.prog X.w) X.A (evalPart e X.env) (fun u s'=>∃o H',Inv X pins σ H' s'/\IsPart u o/\Q o H') X.xe s
noncomputable def Ny:TO:=fun _ H Q=>Q none H
noncomputable def LZ(t:TE):TO:=fun σ H Q=>t σ H fun x H1=>∃i,x=.int i/\Q (some i) H1
theorem xZ{ns:List Int}:∀{us:List Value},Vals (ns.map V.int) us->IntsAre us ns:=by
 induction ns with
 | nil=>intro us r;rw[List.map_nil] at r;cases r;exact .nil
 | cons n ns ih=>
  intro us r;rw[au] at r;cases r with
  | cons r1 r2=>
   obtain⟨t,e⟩:=r1;subst e;exact .cons n t (ih r2)
section
variable {X:Cx} {e:Expr} {te:TE} {lo hi:Option Expr} {tl th:TO} {pos p2:Pos}
theorem Nx:PO X none Ny:=by
 intro pins s σ H Q I h;rw[evalPart_none];exact ag ⟨none,H,I,.none,h⟩
theorem Nw(h:PE X e te):PO X (some e) (LZ te):=by
 intro pins s σ H Q I hw;rw[evalPart_some];refine cK (h pins s σ H _ I hw) fun u s1 bV=>?_
 obtain⟨x,H1,I1,r1,q1⟩:=bV;obtain⟨i,rfl,q⟩:=q1;obtain⟨t,rfl⟩:=r1;exact⟨some i,H1,I1,.int i t,q⟩
def tY(X:Cx)(r:V->Option Int->Option Int->Hp->VK->Prop):Prop:=
 ∀(pins:List (Addr×Obj)) (s:Shared) (σ:St) (H:Hp) (x:V) (v vl vu:Value) (lo hi:Option Int) (sl:Addr) (Q:VK),Inv X pins σ H s->RelV x v->s.heap.IsSliceOf sl vl vu .none->IsPart vl lo->IsPart vu hi->r x lo hi H Q->
  ∃T id,typeLookup (.type T) "__getitem__"=pure (some (.builtin id))/\s.TypeIs v T/\wpAny (model X.prog X.w) X.A (getItem v (.ref sl)) (EP X pins σ Q) X.xe s
theorem tY.or{r r':V->Option Int->Option Int->Hp->VK->Prop}(h:tY X r)(h':tY X r'):tY X (fun x lo hi H Q=>r x lo hi H Q\/r' x lo hi H Q):=by
 intro pins s σ H x v vl vu lo hi sl Q I rx hs pl pu q;rcases q with q | q
 ·exact h pins s σ H x v vl vu lo hi sl Q I rx hs pl pu q
 ·exact h' pins s σ H x v vl vu lo hi sl Q I rx hs pl pu q
def Tt(r:V->Option Int->Option Int->Hp->VK->Prop)(te:TE)(tl th:TO):TE:=fun σ H Q=>te σ H fun x H1=>tl σ H1 fun l H2=>th σ H2 fun u H3=>r x l u H3 Q
theorem OA{r:V->Option Int->Option Int->Hp->VK->Prop}(hr:tY X r)(he:PE X e te)(hl:PO X lo tl)(hu:PO X hi th):PE X (.Subscript e (.Slice lo hi none p2) pos) (Tt r te tl th):=by
 intro pins s σ H Q I h;refine Subscript_ (cK (he pins s σ H _ I h) fun v s1 bV=>?_);obtain⟨x,H1,I1,r1,q1⟩:=bV;refine wpAny_Slice (cK (hl pins s1 σ H1 _ I1 q1) fun vl s2 bV=>?_);obtain⟨l,H2,I2,pl,q2⟩:=bV;refine cK (hu pins s2 σ H2 _ I2 q2) fun vu s3 bV=>?_
 obtain⟨u,H3,I3,pu,q3⟩:=bV;rw[evalPart_none];refine ag ?_;have I4:Inv X pins σ H3 { s3 with heap:=s3.heap.push { cls:=.type "slice",data:=.fields #[vl,vu,.none] } }:=I3.kept (t':=s3.toks) fun b ob q=>af _ q
 obtain⟨T,id,hT,ht,hg⟩:=hr pins { s3 with heap:=s3.heap.push { cls:=.type "slice",data:=.fields #[vl,vu,.none] } } σ H3 x v vl vu l u s3.heap.objs.size Q I4 r1 (Heap.IsSliceOf.new ..) pl pu q3;show wpAny (model X.prog X.w) X.A (subscriptTail e (.Slice lo hi none p2) v (.ref s3.heap.objs.size)) (EP X pins σ Q) X.xe { s3 with heap:=s3.heap.push { cls:=.type "slice",data:=.fields #[vl,vu,.none] } };exact tail_any (ops:=[.ref s3.heap.objs.size,v]) ht hT hg (by with_unfolding_all rfl)
noncomputable def qv(xs:List V)(lo hi:Option Int):List V:=(xs.drop (HT.dz xs.length 0 lo)).take (HT.dz xs.length xs.length hi-HT.dz xs.length 0 lo)
theorem Jn(xs:List V)(lo hi:Option Int):(qv xs lo hi).length<=xs.length:=by
 unfold qv;rw[aP,List.length_drop];omega
def Lc(K:PySem.W.Frag):V->Option Int->Option Int->Hp->VK->Prop:=fun x lo hi H Q=>∃a xs,x=.ref a/\fH K H a xs/\
 ¬(HT.dz xs.length 0 lo=0/\HT.dz xs.length xs.length hi=xs.length)/\∀p,H p=none->Q (.ref p) (upd H p (.tup (qv xs lo hi)))
theorem M8:tY X (Lc X.K):=by
 intro pins s σ H x v vl vu lo hi sl Q I rx hs pl pu h;obtain⟨a,xs,rfl,hx,hw,q⟩:=h;cases rx;obtain⟨its,r,ht,hz⟩:=I.tuple hx;have hlen:its.toArray.size=xs.length:=by rw[ar];exact r.length.symm
 refine⟨"tuple",_,PyProof.Rows.slot_tuple_getitem.lookup,ht.typeIs,?_⟩;refine HT.iG ht hs pl pu (by rw[hlen];exact hw) ?_ (by rw[hlen];exact hz);rw[hlen];refine⟨.ref s.heap.objs.size,_,I.laid (t':=s.toks) (o:=.tup (qv xs lo hi)) (fun b ob q=>af _ q) (aw _) ?_,rfl,q _ (I.cB.fresh (aw _))⟩;exact⟨aT (Jn xs lo hi) hz,_,(r.drop (HT.dz xs.length 0 lo)).take (HT.dz xs.length xs.length hi-HT.dz xs.length 0 lo),IsTup.new _ _⟩
end
end L2
namespace L2
open PySem PySem.Spec PyProof.Rows
noncomputable def rS(n:Nat)(i:Int):Option Nat:=if 0<=i then(if i<n then some i.toNat else none) else if -(n:Int)<=i then some (i+n).toNat else none
noncomputable def fF{α:Type}(xs:List α)(i:Int):Option α:=(rS xs.length i).bind fun j=>xs[j]?
theorem Hy{n:Nat}{i:Int}{j:Nat}(h:rS n i=some j):seqIndex? i n=some j/\j<n/\-(n:Int)<=i/\i<n:=by
 unfold rS at h;by_cases h0:0<=i
 ·rw[if_pos h0] at h;by_cases h1:i<n
  ·rw[if_pos h1] at h;have e:i.toNat=j:=Option.some.inj h;exact⟨by rw[seqIndex_of h0 h1,e],by omega,by omega,h1⟩
  ·rw[if_neg h1] at h;cases h
 ·rw[if_neg h0] at h;by_cases h1:-(n:Int)<=i
  ·rw[if_pos h1] at h;have e:(i+n).toNat=j:=Option.some.inj h;exact⟨by rw[seqIndex_neg (by omega) h1,e],by omega,h1,by omega⟩
  ·rw[if_neg h1] at h;cases h
theorem vH{α:Type}{xs:List α}{i:Int}{v:α}(h:fF xs i=some v):∃j,seqIndex? i xs.length=some j/\xs[j]?=some v/\j<xs.length/\-(xs.length:Int)<=i/\i<xs.length:=by
 unfold fF at h;cases e:rS xs.length i with
 | none=>rw[e] at h;cases h
 | some j=>
  rw[e] at h;obtain⟨h1,h2,h3,h4⟩:=Hy e;exact⟨j,h1,h,h2,h3,h4⟩
def CD(b:Expr):Prop:=∀o i,subscripted b false o i=operate [o,i] (getItem o i)
def sF(X:Cx)(r:R2):Prop:=
 ∀(value slice:Expr) (pins:List (Addr×Obj)) (s:Shared) (σ:St) (H:Hp) (x y:V) (v u:Value) (Q:VK),Inv X pins σ H s->RelV x v->RelV y u->r x y H Q->
  subscripted slice false v u=operate [v,u] (getItem v u)->wpAny (model X.prog X.w) X.A (subscriptTail value slice v u) (EP X pins σ Q) X.xe s
def KL(X:Cx)(id:String)(r:V->List V->Hp->VK->Prop):Prop:=
 ∀(pins:List (Addr×Obj)) (s:Shared) (σ:St) (H:Hp) (x:V) (xs:List V) (v:Value) (us:List Value) (Q:VK),Inv X pins σ H s->RelV x v->Vals xs us->r x xs H Q->
  wpAny (model X.prog X.w) X.A (call (.builtin id) (v::us)) (EP X pins σ Q) X.xe s
section
variable {X:Cx} {a b:Expr} {ta tb:TE} {pos:Pos}
theorem sF.or{r r':R2}(h:sF X r)(h':sF X r'):sF X (fun x y H Q=>r x y H Q\/r' x y H Q):=by
 intro value slice pins s σ H x y v u Q I rx ry q hs;rcases q with q | q
 ·exact h value slice pins s σ H x y v u Q I rx ry q hs
 ·exact h' value slice pins s σ H x y v u Q I rx ry q hs
theorem Gk{r:R2}(hr:sF X r)(ha:PE X a ta)(hb:PE X b tb)(hs:CD b):PE X (.Subscript a b pos) (yF r ta tb):=by
 intro pins s σ H Q I h;exact Subscript_ (BM ha hb I h fun v u s2 x y H2 I2 rx ry q=>hr a b pins s2 σ H2 x y v u Q I2 rx ry q (hs _ _))
def F2(K:PySem.W.Frag):R2:=fun x y H Q=>∃p xs i v,x=.ref p/\y=.int i/\gc K H p xs/\fF xs i=some v/\Q v H
def F1(K:PySem.W.Frag):R2:=fun x y H Q=>∃p xs i v,x=.ref p/\y=.int i/\fH K H p xs/\fF xs i=some v/\Q v H
def F0:R2:=fun x y H Q=>∃z i c,x=.str z/\y=.int i/\z.length<=sizeLine/\fF z.cps.toList i=some c/\Q (.str ⟨#[c]⟩) H
theorem rR:sF X (F2 X.K):=by
 intro value slice pins s σ H x y v u Q I rx ry h hs;obtain⟨p,xs,i,z,rfl,rfl,hq,he,q⟩:=h;cases rx;obtain⟨t,rfl⟩:=ry;obtain⟨its,r,pl,hz⟩:=I.list hq;obtain⟨j,h1,h2,h3,h4,h5⟩:=vH he;obtain⟨w,ew,rO⟩:=r.get h2;have hl:=r.length;have hn:=vy;have fin:EP X pins σ Q w s:=⟨z,H,I,rO,q⟩
 by_cases h0:0<=i
 ·have hj:i.toNat=j:=by
   rw[seqIndex_of h0 h5] at h1;exact Option.some.inj h1
  exact item_listR pl.isList h0 (by omega) (by rw[hj];simpa using ew) fin hs
 ·have hj:(i+(its.toArray.size:Int)).toNat=j:=by
   rw[seqIndex_neg (by omega) h4] at h1;rw[ar,<-hl];exact Option.some.inj h1
  exact subscriptTail_builtinR (x:=w) pl.isList.typeIs slot_list_getitem.lookup
   (wpAny_getItem_list_neg (Q:=fun r s'=>r=w/\EP X pins σ Q r s') pl.isList (by omega) (by rw[ar]<;>omega) (by omega) (by rw[hj];simpa using ew) ⟨rfl,fin⟩) hs
theorem uM:sF X (F1 X.K):=by
 intro value slice pins s σ H x y v u Q I rx ry h hs;obtain⟨p,xs,i,z,rfl,rfl,hq,he,q⟩:=h;cases rx;obtain⟨t,rfl⟩:=ry;obtain⟨its,r,pl,hz⟩:=I.tuple hq;obtain⟨j,h1,h2,h3,h4,h5⟩:=vH he;obtain⟨w,ew,rO⟩:=r.get h2;have hl:=r.length;have hn:=vy;have fin:EP X pins σ Q w s:=⟨z,H,I,rO,q⟩
 exact subscriptTail_builtinR (x:=w) pl.typeIs slot_tuple_getitem.lookup
  (getItem_tuple (j:=j) (Q:=fun r s'=>r=w/\EP X pins σ Q r s') pl (by omega) (by omega) (by rw[ar,<-hl];exact h1) (by simpa using ew) ⟨rfl,fin⟩) hs
theorem M7:sF X F0:=by
 intro value slice pins s σ H x y v u Q I rx ry h hs;obtain⟨z,i,c,rfl,rfl,hz,he,q⟩:=h;obtain⟨t,rfl⟩:=rx;obtain⟨t',rfl⟩:=ry;obtain⟨j,h1,h2,h3,h4,h5⟩:=vH he;have hl:z.cps.toList.length=z.length:=by simp[Str.length]
 rw[hl] at h1 h4 h5;have hn:=vy
 exact tail_any (typeIs_str s z t) slot_str_getitem.lookup (getItem_str (c:=c) (by
  have e1:decide (i < -(2 ^ 63:Int))=false:=aL (by omega);have e2:decide (i>=2 ^ 63)=false:=aL (by omega)
  rw[e1,e2,Bool.or_false]) (by rw[h1];simpa using h2) ⟨.str ⟨#[c]⟩,H,I.tok _,⟨_,rfl⟩,q⟩) hs
def JH(K:PySem.W.Frag):R2:=fun x y H Q=>F2 K x y H Q\/F1 K x y H Q\/F0 x y H Q
theorem Gs:sF X (JH X.K):=rR.or (uM.or M7)
theorem QK(its:List Value)(n j:Nat)(u:Value):Obj.mapSeq (·.setIfInBounds j u) { cls:=.type "list",data:=.seq its.toArray n }={ cls:=.type "list",data:=.seq (its.set j u).toArray n }:=by
 simp[Obj.mapSeq]
theorem Inv.lst{pins:List (Addr×Obj)}{σ:St}{H:Hp}{s:Shared}{p:Addr}{xs:List V}(I:Inv X pins σ H s)(h:H p=some (.lst xs)) :
  ∃(its:List Value) (n:Nat),Vals xs its/\s.heap.get? p=some { cls:=.type "list",data:=.seq its.toArray n }/\xs.length<=sizeLine:=by
 obtain⟨z,its,n,r,e⟩:=I.cB p _ h;exact⟨its,n,r,e,z⟩
theorem Inv.uJ{pins:List (Addr×Obj)}{σ:St}{H:Hp}{s:Shared}{p:Addr}{xs ys:List V}{its its':List Value}{n n':Nat}{f:Obj->Obj}(I:Inv X pins σ H s)(h:H p=some (.lst xs))
  (ho:s.heap.get? p=some { cls:=.type "list",data:=.seq its.toArray n }) (hf:f { cls:=.type "list",data:=.seq its.toArray n }={ cls:=.type "list",data:=.seq its'.toArray n' }) (r:Vals ys its') (hz:ys.length<=sizeLine) (t:Nat) :
  Inv X pins σ (upd H p (.lst ys)) { s with heap:=s.heap.update p f,toks:=t }:=by
 have e:(s.heap.update p f).get? p=some { cls:=.type "list",data:=.seq its'.toArray n' }:=by
  rw[Heap.get?_update_self f ho (by rw[hf]<;>rfl),hf]
 refine I.write (x:=p) (e:=p) (by rw[h];trivial) (.inl rfl) (fun b u hb q=>(aU _ _ (Ne.symm hb)).trans q) ⟨_,e⟩ ?_;exact⟨hz,its',n',r,e⟩
def LY:V->V->V->Hp->(Hp->Prop)->Prop:=fun o i v H Q=>∃p xs k j,o=.ref p/\i=.int k/\H p=some (.lst xs)/\rS xs.length k=some j/\Q (upd H p (.lst (xs.set j v)))
theorem Oz:F5 X LY:=by
 intro pins s σ H o i v ov iv u Q I ro ri rv h;obtain⟨p,xs,k,j,rfl,rfl,hp,hj,q⟩:=h;cases ro;obtain⟨t,rfl⟩:=ri;obtain⟨its,n,r,ho,hz⟩:=I.lst hp;obtain⟨h1,h2,h3,h4⟩:=Hy hj;have hl:=r.length;have hn:=vy;have I':Inv X pins σ (upd H p (.lst (xs.set j v))) { s with heap:=s.heap.update p (Obj.mapSeq (·.setIfInBounds j u)) }:=
  I.uJ hp ho (QK its n j u) (r.set rv j) (by rw[List.length_set];exact hz) s.toks
 by_cases h0:0<=k
 ·have hk:k.toNat=j:=by
   rw[seqIndex_of h0 h4] at h1;exact Option.some.inj h1
  exact PySem.W.ki_setAt ho h0 (by omega) (by rw[ar,<-hl];exact h4) (by rw[hk];exact⟨_,I',q⟩)
 ·have hk:(k+(its.toArray.size:Int)).toNat=j:=by
   rw[seqIndex_neg (by omega) h3] at h1;rw[ar,<-hl];exact Option.some.inj h1
  exact PySem.W.ki_setBack ho (by omega) (by rw[ar,<-hl];exact h3) (by omega) (by rw[hk];exact⟨_,I',q⟩)
theorem Rq(lo hi:Option Int)(n:Nat):(sliceBounds lo hi none n).1=((HT.dz n 0 lo:Nat):Int)/\(sliceBounds lo hi none n).2.1=((HT.dz n n hi:Nat):Int)/\(sliceBounds lo hi none n).2.2=1:=by
 refine⟨?_,?_,rfl⟩
 ·cases lo with
  | none=>simp[sliceBounds,HT.dz]
  | some i=>
   simp only[sliceBounds,HT.dz,Option.getD_none,show(1:Int)>0 by decide,bh];by_cases h:i<0
   ·simp only[h,bh]<;>omega
   ·simp only[h,aX]<;>omega
 ·cases hi with
  | none=>simp[sliceBounds,HT.dz]
  | some i=>
   simp only[sliceBounds,HT.dz,Option.getD_none,show(1:Int)>0 by decide,bh];by_cases h:i<0
   ·simp only[h,bh]<;>omega
   ·simp only[h,aX]<;>omega
theorem RI(its:List Value)(lo hi:Option Int):slicePick its.toArray lo hi none=((its.drop (HT.dz its.length 0 lo)).take (HT.dz its.length its.length hi-HT.dz its.length 0 lo)).toArray:=by
 obtain⟨h1,h2,h3⟩:=Rq lo hi its.toArray.size;unfold slicePick;rw[h1,h2,h3];simp only[sliceRange_one,pick_run,ar]<;>rfl
def Lb(K:PySem.W.Frag):V->Option Int->Option Int->Hp->VK->Prop:=fun x lo hi H Q=>∃a xs,x=.ref a/\gc K H a xs/\∀p,H p=none->Q (.ref p) (upd H p (.lst (qv xs lo hi)))
theorem rN:tY X (Lb X.K):=by
 intro pins s σ H x v vl vu lo hi sl Q I rx hs pl pu h;obtain⟨a,xs,rfl,hx,q⟩:=h;cases rx;obtain⟨its,r,ht,hz⟩:=I.list hx;have hlen:=r.length;refine⟨"list",_,slot_list_getitem.lookup,ht.isList.typeIs,?_⟩;refine wpAny_getItem_list_slice ht.isList hs pl pu .none (by simp) ?_ (by rw[ar]<;>omega);rw[RI,<-hlen];refine⟨.ref s.heap.objs.size,_,I.laid (t':=s.toks) (o:=.lst (qv xs lo hi)) (fun b ob q=>af _ q) (aw _) ?_,rfl,q _ (I.cB.fresh (aw _))⟩;exact⟨aT (Jn xs lo hi) hz,_,0,(r.drop (HT.dz xs.length 0 lo)).take (HT.dz xs.length xs.length hi-HT.dz xs.length 0 lo),ax _ rfl⟩
noncomputable def zV:V->Bool
 | .non=>true
 | .bl _=>true
 | .int _=>true
 | .str _=>true
 | _=>false
noncomputable def Fz:V->V->Bool
 | .non,.non=>true
 | .bl a,.bl b=>a==b
 | .bl a,.int b=>(if a then 1 else 0)==b
 | .int a,.bl b=>a==(if b then 1 else 0)
 | .int a,.int b=>a==b
 | .str a,.str b=>a==b
 | _,_=>false
theorem Gr{A:Around}{s:Shared}{y x:V}{u v:Value}(ry:RelV y u)(rx:RelV x v)(fy:zV y=true)(fx:zV x=true):SeqAt.EqAt A s u v (Fz y x):=by
 cases y with
 | non=>
  cases ry;cases x with
  | non=>cases rx;exact SeqAt.EqAt.same _
  | bl b=>cases rx;exact SeqAt.EqAt.none_bool b
  | int b=>obtain⟨t,rfl⟩:=rx;exact SeqAt.EqAt.none_int b t
  | str b=>obtain⟨t,rfl⟩:=rx;exact SeqAt.EqAt.none_str b t
  | _=>exact absurd (show false=true from fx) az
 | bl a=>
  cases ry;cases x with
  | non=>cases rx;exact SeqAt.EqAt.bool_none a
  | bl b=>cases rx;exact SeqAt.EqAt.bool_bool a b
  | int b=>obtain⟨t,rfl⟩:=rx;exact SeqAt.EqAt.bool_int a b t
  | str b=>obtain⟨t,rfl⟩:=rx;exact SeqAt.EqAt.bool_str a b t
  | _=>exact absurd (show false=true from fx) az
 | int a=>
  obtain⟨t',rfl⟩:=ry;cases x with
  | non=>cases rx;exact SeqAt.EqAt.int_none a t'
  | bl b=>cases rx;exact SeqAt.EqAt.int_bool a t' b
  | int b=>obtain⟨t,rfl⟩:=rx;exact SeqAt.EqAt.int_int a t' b t
  | str b=>obtain⟨t,rfl⟩:=rx;exact SeqAt.EqAt.int_str a t' b t
  | _=>exact absurd (show false=true from fx) az
 | str a=>
  obtain⟨t',rfl⟩:=ry;cases x with
  | non=>cases rx;exact SeqAt.EqAt.str_none a t'
  | bl b=>cases rx;exact SeqAt.EqAt.str_bool a t' b
  | int b=>obtain⟨t,rfl⟩:=rx;exact SeqAt.EqAt.str_int a t' b t
  | str b=>obtain⟨t,rfl⟩:=rx;exact SeqAt.EqAt.str_str a t' b t
  | _=>exact absurd (show false=true from fx) az
 | _=>exact absurd (show false=true from fy) az
theorem kW:gh X (compareOp .NotIn) (fun x y H Q=>∃i j,x=.str i/\y=.str j/\Q (.bl (!(!(Builtin.Str.occurrences j i 0 j.length 1).isEmpty))) H):=by
 intro pins s σ H x y v u Q I rx ry h;obtain⟨i,j,rfl,rfl,q⟩:=h;obtain⟨t,rfl⟩:=rx;obtain⟨t',rfl⟩:=ry;exact notIn_str ⟨.bl _,H,I,rfl,q⟩
theorem iH:c8 X (.builtin "len") (fun xs H Q=>∃p ys,xs=[.ref p]/\(gc X.K H p ys\/fH X.K H p ys)/\Q (.int ys.length) H):=by
 intro pins s σ H xs us Q I r h;obtain⟨p,ys,rfl,hq,q⟩:=h;obtain⟨u,rfl,rx⟩:=lQ r;cases rx;have hn:=vy;rcases hq with hq | hq
 ·obtain⟨its,r',pl,hz⟩:=I.list hq;have hlen:=r'.length;exact Calls.call_len_list pl.isList (by simp only[ar]<;>omega) ⟨.int ys.length,H,I.tok _,⟨s.toks+1,by rw[ar,hlen]⟩,q⟩
 ·obtain⟨its,r',pl,hz⟩:=I.tuple hq;have hlen:=r'.length;exact len_tuple pl (by simp only[ar]<;>omega) ⟨.int ys.length,H,I.tok _,⟨s.toks+1,by rw[ar,hlen]⟩,q⟩
theorem Rp:c8 X (.builtin "len") (fun xs H Q=>∃z,xs=[.str z]/\z.length<=sizeLine/\Q (.int z.length) H):=by
 intro pins s σ H xs us Q I r h;obtain⟨z,rfl,hz,q⟩:=h;obtain⟨u,rfl,t,rfl⟩:=lQ r;have hn:=vy;exact len_str (by omega) ⟨.int z.length,H,I.tok _,⟨_,rfl⟩,q⟩
theorem c8.or{f:Value}{r r':List V->Hp->VK->Prop}(h:c8 X f r)(h':c8 X f r'):c8 X f (fun xs H Q=>r xs H Q\/r' xs H Q):=by
 intro pins s σ H xs us Q I rs q;rcases q with q | q
 ·exact h pins s σ H xs us Q I rs q
 ·exact h' pins s σ H xs us Q I rs q
theorem Ro:c8 X (.type "list") (fun xs H Q=>∃p ys,xs=[.ref p]/\(gc X.K H p ys\/fH X.K H p ys)/\∀l,H l=none->Q (.ref l) (upd H l (.lst ys))):=by
 intro pins s σ H xs us Q I r h;obtain⟨p,ys,rfl,hq,q⟩:=h;obtain⟨u,rfl,rx⟩:=lQ r;cases rx;have fin:∀(its:List Value),Vals ys its->ys.length<=sizeLine->∀(h':Heap) (c':Nat),(∀b o',s.heap.get? b=some o'->h'.get? b=some o')->
   h'.get? s.heap.objs.size=some { cls:=.type "list",dict:=none,data:=.seq its.toArray c',slots:=#[] }->EP X pins σ Q (.ref s.heap.objs.size) { s with heap:=h' }:=fun its r' hz h' c' kp e=>
  ⟨.ref s.heap.objs.size,_,I.laid (t':=s.toks) kp (aw _) (show dF X.prog X.w _ h' _ (.lst ys) from⟨hz,its,c',r',e⟩),rfl,q _ (I.cB.fresh (aw _))⟩
 rcases hq with hq | hq
 ·obtain⟨its,r',pl,hz⟩:=I.list hq;have hlen:=r'.length;obtain⟨o,ho,hc,n,hd⟩:=pl.isList;exact call_list_seq p (.inl rfl) ho hc hd (fun h' c' kp e=>fin its r' hz h' c' kp e) (by simp only[ar]<;>omega)
 ·obtain⟨its,r',pl,hz⟩:=I.tuple hq;have hlen:=r'.length;obtain⟨o,ho,hc,n,hd⟩:=pl;exact call_list_seq p (.inr rfl) ho hc hd (fun h' c' kp e=>fin its r' hz h' c' kp e) (by simp only[ar]<;>omega)
def DQ(K:PySem.W.Frag)(T:String)(x:V)(H:Hp):Prop:=match x with
 | .str _=>T="str"
 | .int _=>T="int"
 | .ref p=>(T="list"/\∃xs,gc K H p xs)\/(T="tuple"/\∃o,K.lookup p=some o/\o.cls=.type "tuple"/\o.dict=none)\/
   (T="dict"/\((∃cI ep,H p=some (.dK cI ep))\/∃cI bs,H p=some (.dT cI bs)))\/(T="set"/\∃S n,H p=some (.set S n))
 | _=>False
theorem M6{pins:List (Addr×Obj)}{σ:St}{H:Hp}{s:Shared}{T:String}{x:V}{v:Value}(I:Inv X pins σ H s)(r:RelV x v)(ty:DQ X.K T x H) :
  s.TypeIs v T/\∀a,v=.ref a->∃ob,s.heap.get? a=some ob/\ob.dict=none:=by
 cases x with
 | str z=>
  obtain⟨t,rfl⟩:=r;cases (show T="str" from ty);exact⟨typeIs_str s z t,fun _ e=>nomatch e⟩
 | int i=>
  obtain⟨t,rfl⟩:=r;cases (show T="int" from ty);exact⟨typeIs_int s i t,fun _ e=>nomatch e⟩
 | ref p=>
  cases r;rcases ty with⟨rfl,xs,hq⟩ | ⟨rfl,o,hk,hc,hd⟩ | ⟨rfl,hk⟩ | ⟨rfl,S,n,hk⟩
  ·obtain⟨its,_,pl,_⟩:=I.list hq;refine⟨pl.isList.typeIs,fun a e=>?_⟩;cases e;obtain⟨o,n,e,c,hd,_⟩:=pl;exact⟨o,e,hd⟩
  ·refine⟨⟨o,I.i4 p o hk,hc⟩,fun a e=>?_⟩;cases e;exact⟨o,I.i4 _ o hk,hd⟩
  ·have z:∃o,s.heap.get? p=some o/\o.ExactDict:=by
    rcases hk with⟨cI,ep,hk⟩ | ⟨cI,bs,hk⟩
    ·obtain⟨_,_,_,_,o,_,e,ex,_⟩:=I.cB p _ hk;exact⟨o,e,ex⟩
    ·obtain⟨_,_,_,_,_,o,_,_,e,ex,_⟩:=I.cB p _ hk;exact⟨o,e,ex⟩
   obtain⟨o,e,ex⟩:=z;refine⟨⟨o,e,ex.1⟩,fun a e2=>?_⟩;cases e2;exact⟨o,e,ex.2.1⟩
  ·obtain⟨o,_,_,_,e,ex,_⟩:=I.cB p _ hk;refine⟨⟨o,e,ex.1⟩,fun a e2=>?_⟩;cases e2;exact⟨o,e,ex.2.1⟩
 | _=>exact False.elim ty
def DS(K:PySem.W.Frag)(T:String)(r:V->List V->Hp->VK->Prop)(to:TE)(t:TA):TE:=fun σ H Q=>to σ H fun x H1=>DQ K T x H1/\t σ H1 fun xs H2=>r x xs H2 Q
variable {o e:Expr} {es:List Expr} {to:TE} {t:TA} {name:Str} {apos eQ:Pos} {T id:String} {r:V->List V->Hp->VK->Prop}
theorem BV(pa:PlainAttrs T)(slot:Slot T name id)(Et:typeOf (.builtin id)=pure (.type "method_descriptor"))(hm:KL X id r)(ho:PE X o to)(ha:PA X (e::es) t)
  (qc:attributeBase o name X.env (eval o X.env)=eval o X.env:=by rfl)
  (uW:((backTo eQ (starEach (e::es) X.env)).all (fun x=>!x.1)&&(backToKw eQ (keywordEach [] X.env)).all (fun x=>x.1.isSome)
   && decide ((e::es).length+([]:List Keyword).length+(if ([]:List Keyword).isEmpty then 0 else 1)<30))=true:=by rfl)
  (pV:(apos.endLine==eQ.line)=true:=by rfl) (hs:starEach (e::es) X.env=(false,eval e X.env)::starEach es X.env:=by rfl) (mW:(backTo eQ (starEach es X.env)).any (·.1)=false:=by rfl) :
  PE X (.Call (.Attribute o name apos) (e::es) [] eQ) (DS X.K T r to t):=by
 intro pins s σ H Q I h;refine wpAny_Call_method_late qc uW pV rfl (cK (ho pins s σ H _ I h) fun v s1 bV=>?_);obtain⟨x,H1,I1,r1,ty,q1⟩:=bV;obtain⟨h1,h2⟩:=M6 I1 r1 ty;refine⟨T,id,pa,slot,Et,h1,h2,?_⟩;have hA:=ha eQ pins s1 σ H1 _ I1 q1;rw[hs] at hA ⊢;refine Calls.callWith_builtin (by show(false||(backTo eQ (starEach es X.env)).any (·.1))=false;rw[mW]<;>rfl) (Calls.evalArgs_plain ?_);exact cK hA fun us s2 bV=>by obtain⟨vs,H2,I2,r2,q2⟩:=bV;exact hm pins s2 σ H2 x vs v us Q I2 r1 r2 q2
end
end L2
namespace L2
open PySem PySem.Spec PyProof.Rows
def VF(X:Cx)(id:String)(r:V->List V->Hp->VK->Prop):Prop:=
 ∀(pins:List (Addr×Obj)) (s:Shared) (σ:St) (H:Hp) (x:V) (xs:List V) (v:Value) (us:List Value) (Q:VK),Inv X pins σ H s->RelV x v->Vals xs us->r x xs H Q->
  wpAny (model X.prog X.w) X.A (call (.builtin id) (v::us)) (EP X pins σ Q) X.xe s
theorem Vals.one{x:V}{us:List Value}(h:Vals [x] us):∃u,us=[u]/\RelV x u:=by
 cases h with
 | cons r t=>cases t;exact⟨_,rfl,r⟩
section
variable {X:Cx} {pins:List (Addr×Obj)} {σ:St} {H:Hp} {s:Shared} {l b:Addr} {xs ys zs:List V}
theorem Inv.Ec{its its':List Value}{n:Nat}{f:Array Value->Array Value}{t':Nat}(I:Inv X pins σ H s)(hH:H l=some (.lst xs))
  (e:s.heap.get? l=some { cls:=.type "list",data:=.seq its.toArray n }) (hf:f its.toArray=its'.toArray) (hv:Vals ys its') (hz:ys.length<=sizeLine) :
  Inv X pins σ (upd H l (.lst ys)) { s with heap:=s.heap.update l (Obj.mapSeq f),toks:=t' }:=by
 have q:=PySem.IsL.update e f;rw[hf] at q;refine I.write (x:=l) (e:=l) (by rw[hH];exact trivial) (.inl rfl) (fun b' u hb hu=>(aU s.heap (Obj.mapSeq f) (Ne.symm hb)).trans hu) ⟨_,q⟩ ?_;exact⟨hz,its',_,hv,q⟩
theorem Inv.yV{its:List Value}{t':Nat}(I:Inv X pins σ H s)(hv:Vals ys its)(hz:ys.length<=sizeLine) :
  Inv X pins σ (upd H s.heap.objs.size (.lst ys)) { s with heap:=s.heap.push { cls:=.type "list",data:=.seq its.toArray },toks:=t' }:=
 I.laid (fun _ _ q=>af _ q) (aw _) ⟨hz,its,0,hv,ax _ rfl⟩
theorem Inv.fresh(I:Inv X pins σ H s):H s.heap.objs.size=none:=I.cB.fresh (aw _)
theorem Inv.Eb(I:Inv X pins σ H s)(hH:H l=some (.lst xs)):xs.length<=sizeLine/\∃(its:List Value) (n:Nat),Vals xs its/\xs.length=its.length/\s.heap.get? l=some { cls:=.type "list",data:=.seq its.toArray n }:=by
 obtain⟨z,its,n,r,e⟩:=I.cB l _ hH;exact⟨z,its,n,r,r.length,e⟩
end
section
variable {X:Cx}
def CC:V->List V->Hp->VK->Prop:=fun x vs H Q=>∃l xs y,x=.ref l/\vs=[y]/\H l=some (.lst xs)/\xs.length<sizeLine/\Q .non (upd H l (.lst (xs++[y])))
theorem C7:VF X "list.append" CC:=by
 intro pins s σ H x vs v us Q I rx rv h;obtain⟨l,xs,y,rfl,rfl,hH,hz,q⟩:=h;cases rx;obtain⟨u,rfl,ru⟩:=rv.one;obtain⟨z,its,n,r,hl,e⟩:=I.Eb hH;refine call_meets F.slot_list_append ⟨_,e,rfl⟩ F.entry_list_append (F.args_list_append_2 _ _) (PySem.list_append l its.toArray n u (by rw[ar];omega)) ⟨e,?_⟩;refine⟨.non,_,I.Ec (its':=its++[u]) hH e (by simp) (r.append (.cons ru .nil)) ?_,rfl,q⟩;rw[aj,List.length_singleton];omega
end
section
variable {prog:Program} {w:World} {A:Around} {E:Value->Shared->Prop} {s:Shared}
end
end L2
namespace KQ
open PySem PySem.W PySem.Calls PyProof.Rows
theorem RK{P:Params}{h:Heap}:∀(ns:List Int) (vs:List Value),WellAll P h vs (ns.map WData.int)->IntsAre vs ns:=by
 intro ns;induction ns with
 | nil=>
  intro vs w;rw[List.map_nil] at w;cases w;exact .nil
 | cons n ns ih=>
  intro vs w;rw[au] at w;cases w with
  | cons a b=>
   cases a;exact .cons _ _ (ih _ b)
theorem Qq{l:OpenLaw}{n:Nat}(hn:l.most=some n){P:Params}{h:Heap}{args:List WData}{vals:List Value}
  (rX:l.row.toRowW.claim.pre args=true) (uO:WellAll P h vals args) :
  ∃a vs ns,vals=[Value.ref a]/\args=[WData.list (ns.map WData.int)]/\h.get? a=some { cls:=.type "list",data:=.seq vs.toArray }/\IntsAre vs ns/\ns.length<=n:=by
 have Ex:WShape.hasAll [] args [.list .int]=true:=(pre_splitW rX).1;have hc:l.pre.holds [] { args:=args }=true:=(pre_splitW rX).2;obtain⟨d,r,rfl,h1,h2⟩:=hasAllW_cons Ex;obtain rfl:=hasAllW_nil h2;obtain⟨xs,rfl,h3⟩:=hasW_list h1;obtain⟨ns,rfl⟩:=items_int h3;have hlen:ns.length<=n:=by
  unfold OpenLaw.pre at hc;have h4:(WTm.not (.lt (.lit (.int (n:Int))) (.len (.arg 0)))).holds [] { args:=[.list (ns.map .int)] }=true:=by
   have h4:=(holds_andW hc).1;rw[hn] at h4;exact h4
  have h5:=condW_of h4 (w_not (w_lt w_lit (w_len_list (w_arg rfl))));rw[ae] at h5;refine Nat.le_of_not_lt fun q=>?_
  have q':(n:Int)<((ns.length:Nat):Int):=by omega
  first
   | (rw[decide_eq_true q'] at h5;exact absurd h5 (by decide))
   | (simp at h5;omega)
 cases uO with
 | cons w1 w2=>
  cases w2;cases w1 with
  | list ho Fj=>exact⟨_,_,ns,rfl,rfl,ho,RK ns _ Fj,hlen⟩
theorem Qp(l:OpenLaw)(args:List WData):l.row.toRowW.claim.post args (.bool true) args=true:=
 postW_of (r:=l.row.toRowW) (X:=(true==true))
  (show WShape.has [] (.bool true) .bool=true by first | rfl | decide | simp[WShape.has,WShape.arms,WShape.armsAll])
  (show(WTm.eq .res (.lit (.bool true))).value [] { args:=args,res:=some (.bool true),after:=args }=some (.bool (true==true)) from w_eq_bool (w_res rfl) w_lit) rfl
theorem l7{l:OpenLaw}{n:Nat}{q:Program}{loose:List Str}{XP:(Str->Option Value)->Heap->Prop}{YP:World->Heap->Prop}{d:DefRec}
  (hn:l.most=some n) (Fc:d.params.defaults=[])
  (call:∀(w:World) (cS cw:Shared) (mg mb:Str->Option Value) (fa:Addr) (o:Obj) (pm cd doc:Value) (a:Addr) (vs:List Value) (ns:List Int),
   Ground q loose [] XP w cS mg mb cw.heap->YP w cw.heap->
   cw.heap.get? fa=some o->o.data=.func (docDef d.name d.params d.body d.scope pm cd doc)->cw.heap.CodeRec cd d.name->mg d.name=some (.ref fa)->
   cw.heap.get? a=some { cls:=.type "list",data:=.seq vs.toArray }->IntsAre vs ns->ns.length<=n->cw.gens=#[]->
   codeAny (model l.prog w) callerA (.call (.ref fa) ⟨[.ref a],[]⟩) (fun r s'=>r=.ok (.ret (.bool true))/\OldK cw.heap s'.heap/\s'.os=cw.os/\AllBare s'.gens) cw) :
  WalkO q loose XP YP l.row.toRowW d [] (fun f vs=>PySem.call f vs):=by
 intro w cS cw mg mb G Y fa o pm cd doc dV kV ho hd iO hD sd hg args vals as rX UM VS uO VT;obtain rfl:dV=.none:=Dflts.none hD Fc;obtain rfl:kV=.none:=Dflts.noKw hD;obtain⟨a,vs,ns,rfl,rfl,r0,hints,hlen⟩:=Qq hn rX uO;refine enter_call (codeAny_mono (call w cS cw mg mb fa o pm cd doc a vs ns G Y ho (fd_plain hd) iO sd r0 hints hlen hg) fun r s' hq=>?_);obtain⟨rfl,h2,h3,h4⟩:=hq;exact⟨.inl ⟨.bool true,.bool true,[],rfl,fun _=>rfl,.bool true,Qp l _,fun _=>⟨List.Pairwise.nil,fun _ hm=>(nomatch hm)⟩⟩,h2,h3,h4⟩
end KQ
namespace L2
open PySem PySem.Spec PyProof.Rows
theorem C6:∀{vs:List Value} {ns:List Int},IntsAre vs ns->Vals (ns.map V.int) vs
 | _,_,.nil=>.nil
 | _,_,.cons n t h=>.cons ⟨t,rfl⟩ (C6 h)
def FZ(H:Hp):Prop:=∀b,H b=none\/∃o xs,H b=some (.jL o (.lst xs))
theorem Oy{P:Program}{w:World}{K:PySem.W.Frag}{mg mb:Str->Option Value}{CX:qT}{k:Nat}{fa a:Addr}{fd:FuncData}{x:Str}{sp:Sp}{cw:Shared}{vs:List Value}{ns:List Int}
  (KX:K.In cw.heap) (nN:cw.heap.Ns mainGlobals mg) (hb:cw.heap.Ns builtinsNs mb) (U4:∀x:Str,x≠"__name__"->mb x=bootBuiltins x) (ES:cw.heap.NoLimit) (hg:cw.gens=#[])
  (ha:cw.heap.get? a=some { cls:=.type "list",data:=.seq vs.toArray }) (hi:IntsAre vs ns) (hl:ns.length<=sizeLine) (hr:cT k callerA)
  (F:∀base:Heap,K.In base->base.Ns mainGlobals mg->fW P w K mg base CX k fa fd [x] sp) (zt:∀(s:Shared) (u:Value),BindsTo s fd ⟨[u],[]⟩ [(x,u)])
  (wq:∀H:Hp,FZ H->gc K H a (ns.map V.int)->sp [.ref a] H (fun v _=>v=.bl true) fun _ _ _=>False)
  (Vh:∀H e s',CX [] H cw (fun _ _ _=>False) e s'->False) :
  codeAny (model P w) callerA (.call (.ref fa) ⟨[.ref a],[]⟩) (fun r s'=>r=.ok (.ret (.bool true))/\OldK cw.heap s'.heap/\s'.os=cw.os/\AllBare s'.gens) cw:=by
 have rv:=C6 hi;have Ee:=hi.length
 -- from an abstract heap in Jz nothing but oZ pK may be tracked
 have core:∀H:Hp,FZ H->gc K H a (ns.map V.int)->iQ P w H cw.heap->(∀b,H b≠none->b=a)->(H a≠none->K.lookup a=none)->
   codeAny (model P w) callerA (.call (.ref fa) ⟨[.ref a],[]⟩) (fun r s'=>r=.ok (.ret (.bool true))/\OldK cw.heap s'.heap/\s'.os=cw.os/\AllBare s'.gens) cw:=by
  intro H hO hS cB hA hK;have nR:∀{b:Addr} {o:Obj},cw.heap.get? b=some o->H b=none->(qW cw.heap H).get? b=some o:=fun e n=>OL e n
  have yQ:∀{b:Addr} {o:Obj} {es:Array DictEntry} {ep:Nat},cw.heap.get? b=some o->o.data=.dict es ep->H b=none:=fun{b o es ep} e d=>by
   cases q:H b with
   | none=>rfl
   | some u=>
    have e':b=a:=hA b (by rw[q];simp);subst e';rw[ha] at e;cases e;have d':Data.seq vs.toArray _=Data.dict es ep:=d;cases d'
  have Ba:∀{b:Addr} {m:Str->Option Value},cw.heap.Ns b m->(qW cw.heap H).Ns b m:=fun{b m} ⟨o,es,ep,e,d,r⟩=>⟨o,es,ep,nR e (yQ e d),d,r⟩
  have Kv:K.In (qW cw.heap H):=fun b o e=>nR (KX b o e) (by
   cases q:H b with
   | none=>rfl
   | some u=>
    have e':b=a:=hA b (by rw[q];simp);subst e'
    rw[hK (by rw[q];simp)] at e;cases e)
  have hM:Mod K mg (qW cw.heap H):=⟨Kv,Ba nN,⟨mb,Ba hb,U4⟩,let⟨mc,h1,h2⟩:=ES;⟨mc,Ba h1,h2⟩⟩
  have e0:ng P w K mg (qW cw.heap H) callerA [] cw H:=⟨rfl,hM,fun b o e=>Ou e,Nat.le_of_eq (P8 _ _),trivial,fun b hb=>absurd (show b∈([]:List Addr) from hb) (by simp),cB,.of_eq hg⟩
  refine codeAny_mono ((F _ Kv (Ba nN)).run callerA [] cw H ⟨[.ref a],[]⟩ [.ref a] [.ref a] _ _ hr e0 (zt cw (.ref a)) (.cons rfl .nil) (wq H hO hS)) fun r s' h=>?_
  cases r with
  | error e=>exact(Vh H e s' h).elim
  | ok fl=>
   cases fl with
   | next=>exact False.elim h
   | brk=>exact False.elim h
   | cont=>exact False.elim h
   | ret u=>
    obtain⟨v,H',os,bare,un,ED,r',q⟩:=h;have q':v=.bl true:=q;subst q';obtain rfl:u=Value.bool true:=r';refine⟨rfl,OldK.of_keep fun b o e=>?_,os,bare⟩;cases q:H b with
    | none=>exact un.keep b o e q (by intro z;exact absurd (show b∈([]:List Addr) from z) (by simp)) (by simp)
    | some u=>
     rcases hO b with z | ⟨ob,xs,z⟩
     ·rw[q] at z;cases z
     ·have z2:=un.hV b ob _ z;obtain⟨e1,_⟩:=cB b _ z;obtain⟨e2,_⟩:=ED b _ z2;rw[e] at e1;cases e1;exact e2
 cases hk:K.lookup a with
 | some o=>
  -- oZ pK is one of oZ yS own objects
  have e:=KX a o hk;rw[ha] at e;cases e;refine core (fun _=>none) (fun _=>.inl rfl) (.inr ⟨_,vs.toArray,_,hk,rfl,rfl,rfl,by rw[ar,Ee];exact hl,by simpa using rv⟩) (fun b u z=>by have z':(none:Option HO)=some u:=z;cases z') (fun b z=>absurd rfl z) fun z=>absurd rfl z
 | none=>
  refine core (fun b=>if b=a then some (.jL { cls:=.type "list",data:=.seq vs.toArray } (.lst (ns.map V.int))) else none) (fun b=>?_) (.inl (.inr ⟨{ cls:=.type "list",data:=.seq vs.toArray },if_pos rfl⟩)) (fun b u z=>?_) (fun b z=>?_) fun _=>hk
  ·by_cases hb:b=a
   ·exact .inr ⟨_,_,if_pos hb⟩
   ·exact .inl (if_neg hb)
  ·by_cases hb:b=a
   ·have z':=(if_pos hb).symm.trans z;cases z';subst hb;exact⟨ha,by rw[ae];exact hl,vs,_,rv,ha⟩
   ·have z':=(if_neg hb).symm.trans z;cases z'
  ·by_cases hb:b=a
   ·exact hb
   ·exact absurd (if_neg hb) z
end L2
namespace L2
open PySem PySem.Spec PyProof.Rows
noncomputable abbrev d7{K:PySem.W.Frag}{h:Heap}(_:K.In h):PySem.W.Frag:=K
end L2
namespace L2
open PySem PySem.Spec PyProof.Rows
def xB(s:Stmt)(j:Nat):Stmt:=match s with
 | .ClassDef _ _ _ body _ _ _ _ _ _ _=>body.getD j (.Pass ⟨0,0,0,0⟩)
 | _=>.Pass ⟨0,0,0,0⟩
noncomputable def dX(s:Stmt):Arguments:=match s with
 | .FunctionDef _ a _ _ _ _ _ _ _ _=>a
 | _=>{ posonlyargs:=[],args:=[],vararg:=none,kwonlyargs:=[],kw_defaults:=[],kwarg:=none,defaults:=[] }
noncomputable def cq(s:Stmt):List Stmt:=match s with
 | .FunctionDef _ _ b _ _ _ _ _ _ _=>b
 | _=>[]
noncomputable def bx(s:Stmt):Scope:=match s with
 | .FunctionDef _ _ _ _ _ _ sc _ _ _=>sc
 | _=>{ kind:=.function,names:=[],isGenerator:=false,isCoroutine:=false }
abbrev hZ:qT:=fun _ _ _ _ _ _=>False
abbrev E0:XK:=fun _ _ _=>False
theorem BU{X:Cx}:vx hZ X E0:=fun _ _ _ _ _ _ _ h=>h.elim
structure oH (dV:Value) (K:PySem.W.Frag) (x qual:Str) (st:Stmt) (f:Addr) (fd:FuncData):Prop where
 ex:∃(oc:Value) (od:Option Addr) (kV doc pm:Value) (an:Option Addr) (cf ct:Value) (nI:Array (Option Value)),
  fd=PySem.W.fnOf x qual (dX st) (cq st) (bx st) dV kV doc pm an cf ct/\K.lookup f=some ⟨oc,od,.func fd,nI⟩/\PySem.W.codeIn K cf qual=true
 kp:PySem.W.keepIn K (.ref f)=true
noncomputable abbrev xa:=oH .none
section
variable {P:Program} {w:World} {K:PySem.W.Frag} {mg:Str->Option Value} {base:Heap}
theorem oH.ok{dV:Value}{x qual:Str}{st:Stmt}{f:Addr}{fd:FuncData}{N ps:List Str}{k:Nat}{sp:Sp}(F:oH dV K x qual st f fd)(S:bI N ps (bx st))(len:∀vs H Q E,sp vs H Q E->vs.length=ps.length)
  (pZ:∀(cf:Value) (A:Around) (outer:List Env) (s:Shared) (H:Hp) (vs:List V) (Q:VK) (E:XK),cT k (A.deeper (envOfC qual (bx st) s.heap.objs.size f cf))->sp vs H Q E->
   ∃t,la (jl hZ P w K mg base N qual (bx st) f cf A outer s H E).kN (cq st) t/\t { nx:=fun _ H'=>Q .non H',rt:=Q } (j3 N vs) H):fW P w K mg base hZ (k+1) f fd ps sp:=by
 obtain⟨oc,od,kV,doc,pm,an,cf,ct,nI,rfl,lk,iO⟩:=F.ex;refine Gm lk iO S len fun A outer s H vs Q E hr wq=>?_
 obtain⟨t,h,q⟩:=pZ cf A outer s H vs Q E hr wq;exact⟨t,h.kN,q⟩
theorem oH.binds{x qual:Str}{st:Stmt}{f:Addr}{fd:FuncData}{ps:List Str}(F:xa K x qual st f fd)
  (h:∀(kV doc pm:Value) (an:Option Addr) (cf ct:Value) (us:List Value),us.length=ps.length->bindArgs (PySem.W.fnOf x qual (dX st) (cq st) (bx st) .none kV doc pm an cf ct) ⟨us,[]⟩=pure (ps.zip us)):Binds K fd ps []:=by
 obtain⟨oc,od,kV,doc,pm,an,cf,ct,nI,rfl,lk,iO⟩:=F.ex;exact .all (h kV doc pm an cf ct)
theorem mX{x qual:Str}{st:Stmt}{f:Addr}{oc:Value}{od an:Option Addr}{nI:Array (Option Value)}{dV kV doc pm cf ct:Value}(l:K.lookup f=some ⟨oc,od,.func (PySem.W.fnOf x qual (dX st) (cq st) (bx st) dV kV doc pm an cf ct),nI⟩)
  (c:PySem.W.codeIn K cf qual=true) (k:PySem.W.keepIn K (.ref f)=true):oH dV K x qual st f (PySem.W.fnOf x qual (dX st) (cq st) (bx st) dV kV doc pm an cf ct):=⟨⟨oc,od,kV,doc,pm,an,cf,ct,nI,rfl,l,c⟩,k⟩
end
def bL(H H':Hp):Prop:=∀b o,H b=some o->H' b=some o
theorem bL.refl(H:Hp):bL H H:=fun _ _ h=>h
theorem bL.trans{H H1 H2:Hp}(a:bL H H1)(b:bL H1 H2):bL H H2:=fun c o h=>b c o (a c o h)
theorem bL.free{H H':Hp}(e:bL H H'){l:Addr}(h:H' l=Option.none):H l=Option.none:=by
 cases q:H l with
 | none=>rfl
 | some o=>
  rw[e l o q] at h;cases h
end L2
set_option maxHeartbeats 0
namespace L2
open PySem PySem.Spec PyProof.Rows
def j6(K:PySem.W.Frag)(H:Hp)(a:Addr)(xs:List V):Prop:=
 Rd H a (.lst xs)\/∃(its:Array Value) (n:Nat),K.lookup a=some { cls:=.type "list",data:=.seq its n }/\its.size<=sizeLine/\Vals xs its.toList
theorem j6.of{K:PySem.W.Frag}{H:Hp}{a:Addr}{xs:List V}(h:H a=some (.lst xs)):j6 K H a xs:=.inl (.inl h)
theorem j6.sq{K:PySem.W.Frag}{H:Hp}{a:Addr}{xs:List V}(h:j6 K H a xs):gc K H a xs:=by
 rcases h with h | ⟨its,n,h1,h2,h3⟩
 ·exact .inl h
 ·exact .inr ⟨_,its,n,h1,rfl,rfl,rfl,h2,h3⟩
theorem bL.gH{K:PySem.W.Frag}{H H':Hp}{a:Addr}{xs:List V}(e:bL H H')(h:j6 K H a xs):j6 K H' a xs:=by
 rcases h with(h | ⟨o,h⟩) | h
 ·exact .inl (.inl (e _ _ h))
 ·exact .inl (.inr ⟨o,e _ _ h⟩)
 ·exact .inr h
theorem Inv.gH{X:Cx}{pins:List (Addr×Obj)}{σ:St}{H:Hp}{s:Shared}{a:Addr}{xs:List V}(I:Inv X pins σ H s)(h:j6 X.K H a xs):xs.length<=sizeLine/\∃(its:List Value) (n:Nat),Vals xs its/\s.heap.get? a=some { cls:=.type "list",data:=.seq its.toArray n }:=by
 rcases h with h | ⟨its,n,h1,h2,h3⟩
 ·obtain⟨z,its,n,r,e⟩:=h.ok I.cB;exact⟨z,its,n,r,e⟩
 ·refine⟨by rw[h3.length];simpa using h2,its.toList,n,h3,?_⟩;rw[Array.toArray_toList];exact I.i4 a _ h1
noncomputable def j9(cells:List (Str×Addr)):List (Str×NameKind)->List (Str×Addr)->List (Str×Addr)
 | [],acc=>acc
 | (n,k)::r,acc=>j9 cells r (if k==.free then(n,(cells.lookup n).getD 0)::acc else acc)
theorem Jm{env:Env}:∀(names:List (Str×NameKind)) (acc:List (Str×Addr)),(∀x∈names,x.2=.free->∃c,env.cells.lookup x.1=some c)->
  (forIn names acc fun(x:Str×NameKind) (r:List (Str×Addr))=>
   (if (x.2==NameKind.free)=true then do let a <-cellOf env x.1;pure (ForInStep.yield ((x.1,a)::r)) else pure (ForInStep.yield r):Sem (ForInStep (List (Str×Addr)))))=pure (j9 env.cells names acc)
 | [],acc,_=>by simp[j9]
 | (n,k)::r,acc,h=>by
  have ih:=fun ju=>Jm (env:=env) r ju fun x hx=>h x (aA _ hx)
  rw[List.forIn_cons];by_cases hk:k=.free
  ·subst hk;obtain⟨c,hc⟩:=h (n,.free) (by simp) rfl;have e1:cellOf env n=pure c:=by unfold cellOf;rw[hc]
   simp only[beq_self_eq_true,bh,e1,pure_bind];rw[ih];simp[j9,hc]
  ·have qL:(k==NameKind.free)=false:=by simpa using hk
   simp only[qL,ay,aX,pure_bind];rw[ih];simp[j9,qL]
theorem Jl{env:Env}{scope:Scope}(h:∀x∈scope.names,x.2=.free->∃c,env.cells.lookup x.1=some c):closureFor scope env=pure (j9 env.cells scope.names []):=by
 have e:closureFor scope env=(forIn scope.names ([]:List (Str×Addr)) fun(x:Str×NameKind) (r:List (Str×Addr))=>
   (if (x.2==NameKind.free)=true then do let a <-cellOf env x.1;pure (ForInStep.yield ((x.1,a)::r)) else pure (ForInStep.yield r):Sem (ForInStep (List (Str×Addr))))) >>= fun r=>pure r:=rfl
 rw[e,Jm _ _ h];rfl
theorem IB{cells:List (Str×Addr)}:∀{names:List (Str×NameKind)} {acc:List (Str×Addr)} {x:Str} {c:Addr},(x,c)∈j9 cells names acc->(x,c)∈acc\/((x,.free)∈names/\c=(cells.lookup x).getD 0)
 | [],acc,x,c,h=>.inl h
 | (n,k)::r,acc,x,c,h=>by
  rcases IB (names:=r) h with h | ⟨h,e⟩
  ·by_cases hk:k=.free
   ·subst hk;simp only[beq_self_eq_true,bh] at h;rcases ah.mp h with h | h
    ·cases h;exact .inr ⟨by simp,rfl⟩
    ·exact .inl h
   ·have qL:(k==NameKind.free)=false:=by simpa using hk
    simp only[qL,ay,aX] at h;exact .inl h
  ·exact .inr ⟨aA _ h,e⟩
theorem IA{cells:List (Str×Addr)}:∀{names:List (Str×NameKind)} {acc:List (Str×Addr)} {p:Str×Addr},p∈acc->p∈j9 cells names acc
 | [],acc,p,h=>h
 | (n,k)::r,acc,p,h=>IA (names:=r) (by split<;>simp[h])
theorem CQ{cells:List (Str×Addr)}:∀{names:List (Str×NameKind)} {acc:List (Str×Addr)} {x:Str},(x,.free)∈names->∃c,(x,c)∈j9 cells names acc
 | (n,k)::r,acc,x,h=>by
  rcases ah.mp h with h | h
  ·have e1:x=n:=congrArg Prod.fst h;have e2:NameKind.free=k:=congrArg Prod.snd h;subst e1 e2;refine⟨(cells.lookup x).getD 0,?_⟩;show(x,(cells.lookup x).getD 0)∈j9 cells r (if (NameKind.free==NameKind.free)=true then(x,(cells.lookup x).getD 0)::acc else acc);exact IA (by simp)
  ·exact CQ (names:=r) h
theorem AQ{α:Type}:∀{l:List (Str×α)} {x:Str} {c:α},(x,c)∈l->∃c',l.lookup x=some c'
 | (n,k)::r,x,c,h=>by
  by_cases e:x=n
  ·subst e;exact⟨k,by simp[List.lookup_cons]⟩
  ·have e':(x==n)=false:=by simpa using e
   rcases ah.mp h with h | h
   ·cases h;exact absurd rfl e
   ·obtain⟨c',q⟩:=AQ h;exact⟨c',by simp[List.lookup_cons,e',q]⟩
theorem DB{env:Env}:∀{names:List (Str×NameKind)} {x:Str},
  (names.map fun(n,k)=>if (k==NameKind.free&&env.scope.kind==.function&&env.kindOf n==some .cell) then(n,NameKind.cell) else(n,k)).lookup x
   = (names.lookup x).map fun k=>if (k==NameKind.free&&env.scope.kind==.function&&env.kindOf x==some .cell) then NameKind.cell else k
 | [],x=>rfl
 | (n,k)::r,x=>by
  have ih:=@DB env r x;rw[au];have e0:(if (k==NameKind.free&&env.scope.kind==.function&&env.kindOf n==some .cell)=true then(n,NameKind.cell) else(n,k))=(n,if (k==NameKind.free&&env.scope.kind==.function&&env.kindOf n==some .cell)=true then NameKind.cell else k):=by split<;>rfl
  show List.lookup x ((if (k==NameKind.free&&env.scope.kind==.function&&env.kindOf n==some .cell)=true then(n,NameKind.cell) else(n,k))::_)=_;rw[e0];by_cases e:x=n
  ·subst e;rw[List.lookup_cons,List.lookup_cons,beq_self_eq_true];rfl
  ·have e':(x==n)=false:=by simpa using e
   rw[List.lookup_cons,List.lookup_cons,e'];exact ih
theorem DH:∀(names:List (Str×NameKind)) (n:Nat) (acc ju:List (Str×Addr)),cellsFrom n names (acc++ju)=cellsFrom n names acc++ju
 | [],_,_,_=>rfl
 | (x,k)::r,n,acc,ju=>by
  unfold cellsFrom;split
  ·exact DH r (n+1) ((x,n)::acc) ju
  ·exact DH r n acc ju
theorem DG:∀{names:List (Str×NameKind)} {n:Nat} {acc:List (Str×Addr)} {p:Str×Addr},p∈cellsFrom n names acc->p∈acc\/(p.1,.cell)∈names
 | [],_,_,_,h=>.inl h
 | (x,k)::r,n,acc,p,h=>by
  unfold cellsFrom at h;split at h
  ·rename_i hk;rcases DG h with h | h
   ·rcases ah.mp h with rfl | h
    ·rw[eq_of_beq hk];exact .inr (by simp)
    ·exact .inl h
   ·exact .inr (aA _ h)
  ·exact(DG h).imp id (aA _)
theorem yj:∀{names:List (Str×NameKind)} {n:Nat} {acc:List (Str×Addr)} {p:Str×Addr},p∈acc->p∈cellsFrom n names acc
 | [],_,_,_,h=>h
 | (x,k)::r,n,acc,p,h=>by
  unfold cellsFrom;split
  ·exact yj (aA _ h)
  ·exact yj h
theorem DF:∀{names:List (Str×NameKind)} {n:Nat} {acc:List (Str×Addr)} {x:Str},(x,.cell)∈names->∃c,(x,c)∈cellsFrom n names acc
 | (y,k)::r,n,acc,x,h=>by
  unfold cellsFrom;rcases ah.mp h with h | h
  ·cases h;exact⟨n,yj (by simp)⟩
  ·split
   ·exact DF h
   ·exact DF h
theorem Ox{M:Model}{A:Around}{E:Value->Shared->Prop}{s:Shared}{scope:Scope}{globals:Addr}{closure:List (Str×Addr)}{qual:Str}{func:Option Addr}{code:Value}{out:Env}{Q:Env->Shared->Prop}
  (hQ:∀h',h'=pushCells (s.heap.push { cls:=.type "dict",data:=.dict #[] }) scope.names->Q (newEnv scope s.heap.objs.size globals (cellsFrom (s.heap.objs.size+1) scope.names closure) qual func code (some out) builtinsNs) { s with heap:=h' }) :
  wpAny M A (newFunctionEnv scope globals closure [] qual func code (some out)) Q E s:=by
 simp only[newFunctionEnv,Option.isSome_some,bh];refine aa (wpAny_alloc ?_);refine aa (wpAny_layCells _ (fun name kind cells=>by cases UN:kind==NameKind.cell<;>simp[UN]) _ _ _ _ ?_);rw[show({ s with heap:=s.heap.push { cls:=.type "dict",data:=.dict #[] } }:Shared).heap.objs.size=s.heap.objs.size+1 from Heap.size_push ..];rw[List.forIn_nil];exact aa (ag (ag (hQ _ rfl)))
noncomputable abbrev l6(X:Cx)(N':List Str)(scope:Scope)(s3:Shared)(H3:Hp)(ex:List Addr)(XE:Value->Shared->Prop):Cx:=
 { X with N:=N',cS:=s3,oG:=H3,env:=compEnvC scope (cellsFrom (s3.heap.objs.size+1) scope.names (j9 X.env.cells scope.names [])) s3.heap.objs.size X.env,outer:=X.stack,stack:=X.stack,ex:=ex,fn:=fun x=>scope.names.lookup x==some .cell,pn:=[],xe:=XE }
noncomputable abbrev lM(X:Cx)(N':List Str)(scope:Scope)(s3:Shared)(H3:Hp)(ex:List Addr):Cx:=l6 X N' scope s3 H3 ex fun _ _=>False
def FP(X:Cx)(C:Addr)(x:Value)(s':Shared):Prop:=
 ∃m,s'.heap.Ns C m/\∀h',Heap.SameBut C s'.heap h'->∀qi:Env,qi.locals=C->wpAny (model X.prog X.w) X.A (passOn "comprehension.variables-let-go" x qi:Sem Value) (fun _ _=>False) X.xe { s' with heap:=h' }
noncomputable def pQ(m:List (Option Nat))(σ:St):St:=m.map fun o=>match o with
 | none=>none
 | some j=>(σ[j]?).join
structure cp (X:Cx) (N':List Str) (m:List (Option Nat)) (scope:Scope):Prop where
 kind:scope.kind=.function
 len:m.length=N'.length
 uniq:∀y∈scope.names,scope.names.lookup y.1=some y.2
 free:∀y∈scope.names,y.2=.free->X.env.kindOf y.1=some .cell\/X.env.kindOf y.1=some .free
 Vz:∀(i j:Nat) (x:Str),m[i]?=some (some j)->N'[i]?=some x->X.N[j]?=some x/\scope.names.lookup x=some .free
def t6(X:Cx)(ifs:List Expr)(t:TT):Prop:=
 ∀(pins:List (Addr×Obj)) (s:Shared) (σ:St) (H:Hp) (Q:Bool->Hp->Prop),Inv X pins σ H s->t σ H Q->
  wpAny (model X.prog X.w) X.A (forIn ifs true fun c r=>if r=true then do let ok <-isTrue c X.env (eval c X.env);pure (ForInStep.yield ok) else pure (ForInStep.yield r)) (TP X pins σ Q) X.xe s
def La:TT:=fun _ H Q=>Q true H
theorem Nv{X:Cx}:t6 X [] La:=fun _ _ σ H _ I h=>wpAny_tests_nil ⟨H,I,h⟩
theorem Nu{X:Cx}{c:Expr}{t:TT}(h:PT X c t):t6 X [c] t:=fun pins s σ H Q I q=>wpAny_tests_one (h pins s σ H Q I q)
section
variable {prog:Program} {w:World} {A:Around} {R:Result->Shared->Prop} {s:Shared}
theorem Rb{elt target iter:Expr}{ifs:List Expr}{scope:Scope}{pos:Pos}{it acc:Value}{env:Env}{EI:Value->Shared->Prop}(nv:∀x s,EI x s->notedBy (model prog w) A env (fun x s'=>R (.error x) s') x s)(I:Nat->Shared->Prop)
  (turn:∀n s,I n s->wpAny (model prog w) A (pyNext it) (fun r cw=>match r with
   | none=>R (.ok .next) cw
   | some v=>wpAny (model prog w) A (letOwnedTupleGo target it v) (fun _ tF=>wpAny (model prog w) A (assign target env v) (fun _ jn=>
     wpAny (model prog w) A (forIn ifs true fun c r=>if r=true then do let ok <-isTrue c env (eval c env);pure (ForInStep.yield ok) else pure (ForInStep.yield r)) (fun ok mQ=>
      if ok=true then wpAny (model prog w) A (eval elt env) (fun x rM=>
       wpAny (model prog w) A (call (.builtin "list.append") [acc,x]) (fun _ yG=>∃m,m<n/\I m yG) EI rM) EI mQ
      else ∃m,m<n/\I m mQ) EI jn) EI tF) EI cw) EI s)
  (n:Nat) (h:I n s) :
  codeAny (model prog w) A (.compLoop (.ListComp elt [⟨target,iter,ifs,0⟩] scope pos) 0 it acc env) R s:=by
 refine codeAny_loop rfl I (fun n s hI=>?_) n h;show wpAny _ A ((compTurn (.ListComp elt [⟨target,iter,ifs,0⟩] scope pos) 0 it acc env).onRaise (fun x=>do noteFrame x env;theTreesLotGoes x)) _ _ s;refine wpAny_noted ?_;rw[compTurn_list];refine aa (wpAny_standAt (aa (bc (turn n s hI) (fun r cw jI=>?_) nv)));cases r with
 | none=>exact ag jI
 | some v=>
  refine aa (bc jI (fun _ tF yY=>?_) nv);refine aa (bc yY (fun _ jn El=>aa (bc El (fun ok mQ yX=>?_) nv)) nv);cases ok with
  | false=>exact ag ⟨rfl,yX⟩
  | true=>
   exact aa (aa (bc yX (fun x rM Ek=>aa (bc Ek (fun _ yG Ej=>ag (ag ⟨rfl,Ej⟩)) nv)) nv))
end
end L2
namespace L2
open PySem PySem.Spec PyProof.Rows
noncomputable abbrev m8(α:Type):=Shared->Hp->List Addr->α
def sT(wi:TI)(m:List (Option Nat))(g:m8 TG)(tc:m8 TT)(te:m8 TE):TE:=fun σ H Q=>wi σ H fun J H1=>∀D,H1 D=none->∀s3 ex,
 ∃W:Nat->Nat->St->Hp->Prop,(∃k,W 0 k (pQ m σ) (upd H1 D (.lst [])))/\∀i k cc H',W i k cc H'->
  (J.stop i H'/\Q (.ref D) H')\/(J.go i H'/\∃N:St->Hp->Prop,(∀cc H',N cc H'->∃k',k'<k/\W (i+1) k' cc H')/\
   ∀x H2,J.AY i H' x H2->g s3 (upd H1 D (.lst [])) ex x cc H2 fun jB H3=>tc s3 (upd H1 D (.lst [])) ex jB H3 fun b H4=>
    if b=true then te s3 (upd H1 D (.lst [])) ex jB H4 fun v H5=>∃xs,H5 D=some (.lst xs)/\xs.length<sizeLine/\N jB (upd H5 D (.lst (xs++[v]))) else N jB H4)
section
variable {X:Cx} {elt iter tg:Expr} {ifs:List Expr} {scope:Scope} {pos:Pos} {N':List Str} {m:List (Option Nat)} {wi:TI} {g:m8 TG} {tc:m8 TT} {te:m8 TE}
theorem Ow{XE:Value->Shared->Prop}{pins:List (Addr×Obj)}{σ:St}{H:Hp}{s:Shared}{fp:List Addr}{jI:Heap}{tk:Nat}(cs:cp X N' m scope)(I:Inv X pins σ H s)(f:∀b∈fp,i7 X pins H b)(fo:∀b∈fp,b<s.heap.objs.size)
  (hh:jI=pushCells (s.heap.push { cls:=.type "dict",data:=.dict #[] }) scope.names) :
  Inv (l6 X N' scope s H fp XE) [] (pQ m σ) H { s with heap:=jI,toks:=tk }:=by
 have hk:∀b o,s.heap.get? b=some o->jI.get? b=some o:=fun b o e=>by rw[hh];exact pushCells_keeps _ _ b o (af _ e)
 have nN:jI.Ns s.heap.objs.size (fun _=>none):=by rw[hh];exact(Heap.Ns.new s.heap (.type "dict")).keeps (pushCells_keeps _ _)
 have ok:=cellsFrom_ok scope.names (s.heap.push { cls:=.type "dict",data:=.dict #[] }) (s.heap.objs.size+1) [] ⟨fun _ _ hm=>(nomatch hm),List.Pairwise.nil⟩ (by rw[Heap.size_push];exact aw _);rw[Heap.size_push,<-hh] at ok;have eT:∀y∈scope.names,y.2=.free->∃c,X.env.cells.lookup y.1=some c:=fun y hy hf=>I.ok.has y.1 (cs.free y hy hf)
 have app:cellsFrom (s.heap.objs.size+1) scope.names (j9 X.env.cells scope.names [])=cellsFrom (s.heap.objs.size+1) scope.names []++j9 X.env.cells scope.names []:=DH _ _ [] _
 /- a cell: of its own,or one from around -/
 have u7:∀x c,(cellsFrom (s.heap.objs.size+1) scope.names (j9 X.env.cells scope.names [])).lookup x=some c->((x,c)∈cellsFrom (s.heap.objs.size+1) scope.names []/\scope.names.lookup x=some .cell)\/(X.env.cells.lookup x=some c/\scope.names.lookup x=some .free):=fun x c e=>by
  have hm:=PySem.mem_of_lookup e;rw[app] at hm;rcases av.mp hm with hm | hm
  ·refine .inl ⟨hm,?_⟩;rcases DG hm with z | z
   ·cases z
   ·exact cs.uniq _ z
  ·rcases IB hm with z | ⟨z,e'⟩
   ·cases z
   ·obtain⟨c',q⟩:=eT _ z rfl;rw[q] at e';exact .inr ⟨by rw[q,e'];rfl,cs.uniq _ z⟩
 have old:∀x c,X.env.cells.lookup x=some c->c<s.heap.objs.size:=fun x c e=>by obtain⟨v,z⟩:=I.cell x c e;exact z.lt
 refine⟨⟨I.ok.mod,cs.kind,I.ok.glob,I.ok.blt,aw _,fun x y c e1 e2=>?inj,fun x hx=>?_,fun x c hx e=>?cab,I.ok.hd,I.ok.frames,.inl rfl,fun b hb=>⟨aD (fo b hb),fun x c e=>?exf⟩,
  fun b o e=>I.bs b o e,aT I.ok.sC I.sz,fun b o e hb=>?_,fun b hb z=>?_,I.stack,I.nE⟩,
  rfl,I.bare,Un.kept hk,⟨_,nN,fun i x v h1 h2 h3=>?_⟩,fun x c e=>?_,I.cB.fresh (aw _),fun x c e=>?frc,fun p hp=>(by cases hp),I.cB.kept hk,?_⟩
 case inj=>
  rcases u7 x c e1 with⟨m1,_⟩ | ⟨o1,_⟩<;>rcases u7 y c e2 with⟨m2,_⟩ | ⟨o2,_⟩
  ·exact PySem.name_of_addr ok.apart m1 m2
  ·exact absurd (old y c o2) (Nat.not_lt.mpr (aT (bp _) (ok.empty x c m1).2))
  ·exact absurd (old x c o1) (Nat.not_lt.mpr (aT (bp _) (ok.empty y c m2).2))
  ·exact I.ok.inj x y c o1 o2
 case cab=>
  rcases u7 x c e with⟨m1,_⟩ | ⟨_,z⟩
  ·exact aT (bp _) (ok.empty x c m1).2
  ·have rT:(scope.names.lookup x==some .cell)=true:=hx;rw[z] at rT;cases rT
 case exf=>
  rcases u7 x c e with⟨m1,_⟩ | ⟨o1,_⟩
  ·exact Nat.ne_of_gt (aF (Nat.lt_succ_of_lt (fo b hb)) (ok.empty x c m1).2)
  ·exact(f b hb).2.2.2.2.1 x c o1
 case frc=>
  rcases u7 x c e with⟨m1,_⟩ | ⟨o1,_⟩
  ·exact I.cB.fresh (aT (bp _) (ok.empty x c m1).2)
  ·exact I.eU x c o1
 ·have rT:(relabel scope X.env).names.lookup x=some .cell\/(relabel scope X.env).names.lookup x=some .free:=hx;have e:(relabel scope X.env).names.lookup x=(scope.names.lookup x).map fun k=>if (k==NameKind.free&&X.env.scope.kind==.function&&X.env.kindOf x==some .cell) then NameKind.cell else k:=DB
  rw[e] at rT;have hf:(x,NameKind.free)∈scope.names\/(x,NameKind.cell)∈scope.names:=by
   cases q:scope.names.lookup x with
   | none=>rw[q] at rT;simp at rT
   | some k=>
    rw[q] at rT;have hm:=PySem.mem_of_lookup q;by_cases zf:k=.free
    ·subst zf;exact .inl hm
    ·have qL:(k==NameKind.free)=false:=by simpa using zf
     simp only[qL,Option.map_some,Bool.false_and,ay,aX,Option.some.injEq] at rT;rcases rT with z | z
     ·subst z;exact .inr hm
     ·exact absurd z zf
  show ∃c,(cellsFrom (s.heap.objs.size+1) scope.names (j9 X.env.cells scope.names [])).lookup x=some c
  rcases hf with hf | hf
  ·obtain⟨c,hc⟩:=CQ (cells:=X.env.cells) (acc:=[]) hf;exact AQ (yj hc)
  ·obtain⟨c,hc⟩:=DF (n:=s.heap.objs.size+1) (acc:=j9 X.env.cells scope.names []) hf;exact AQ hc
 ·rcases(f b hb).2.2.2.1 with z | z
  ·exact I.ok.om b o e z
  ·exact absurd (aF (aq (I.ok.bs b o e).1) z) (Nat.lt_irrefl _)
 ·rcases ah.mp (I.mR b z) with q | q
  ·exact(f b hb).2.1 q
  ·exact(f b hb).2.2.1 q
 ·unfold pQ at h2;rw[aR] at h2;cases q:m[i]? with
  | none=>rw[q] at h2;cases h2
  | some o=>
   rw[q] at h2;cases o with
   | none=>cases h2
   | some j=>
    simp only[Option.map_some,Option.some.injEq] at h2;have Fu:σ[j]?=some (some v):=by
     cases z:σ[j]? with
     | none=>rw[z] at h2;cases h2
     | some a=>rw[z] at h2;simp at h2;rw[h2]
    obtain⟨hN,jK⟩:=cs.Vz i j x q h1;have Kg:=PySem.mem_of_lookup jK;obtain⟨m0,UI,hl⟩:=I.loc;have nO:=cs.free _ Kg rfl;have Er:l8 X.env.scope x:=nO.elim (fun z=>.inr (.inl z)) (fun z=>.inr (.inr z));obtain⟨u,ru,lu⟩:=hl j x v hN Fu Er;refine⟨u,ru,.inr ⟨?_,?_⟩⟩
    ·show(relabel scope X.env).names.lookup x=some .cell\/(relabel scope X.env).names.lookup x=some .free;have e:(relabel scope X.env).names.lookup x=(scope.names.lookup x).map fun k=>if (k==NameKind.free&&X.env.scope.kind==.function&&X.env.kindOf x==some .cell) then NameKind.cell else k:=DB
     rw[e,jK];simp only[Option.map_some];split
     ·exact .inl rfl
     ·exact .inr rfl
    ·rcases lu with⟨k,_⟩ | ⟨_,c,e,z⟩
     ·rcases nO with z | z<;>· rw[k] at z;cases z
     ·obtain⟨c',pY⟩:=AQ (yj (names:=scope.names) (n:=s.heap.objs.size+1) (CQ (cells:=X.env.cells) (acc:=[]) Kg).choose_spec);have:X.env.cells.lookup x=some c':=by
       rcases u7 x c' pY with⟨_,z⟩ | ⟨z,_⟩
       ·rw[jK] at z;cases z
       ·exact z
      rw[e] at this;cases this;obtain⟨oc,rZ,hd⟩:=z;exact⟨c,pY,oc,hk c oc rZ,hd⟩
 ·rcases u7 x c e with⟨m1,_⟩ | ⟨o1,_⟩
  ·exact⟨none,(ok.empty x c m1).1⟩
  ·obtain⟨v,oc,rZ,hd⟩:=I.cell x c o1;exact⟨v,oc,hk c oc rZ,hd⟩
 ·show(pQ m σ).length=N'.length;unfold pQ;rw[ae,cs.len]
def FO(X:Cx)(s3:Shared)(H3:Hp)(ex:List Addr):Prop:=∃pins σ,Inv X pins σ H3 s3/\∀b∈ex,i7 X pins H3 b/\b<s3.heap.objs.size
theorem II{use:Option (Value->Sem Unit)}{Q':Value->Shared->Prop}{pins:List (Addr×Obj)}{s:Shared}{σ:St}{H:Hp}{Q:VK}
  {XE:Shared->Value->Shared->Prop} (zy:∀s3 x s',XE s3 x s'->notedBy (model X.prog X.w) X.A (compEnvC scope (cellsFrom (s3.heap.objs.size+1) scope.names (j9 X.env.cells scope.names [])) s3.heap.objs.size X.env) (FP X s3.heap.objs.size) x s')
  (hc:X.calm=true) (cs:cp X N' m scope) (hi:PI X tg iter wi) (hg:∀s3 H3 ex,PG (l6 X N' scope s3 H3 ex (XE s3)) tg (g s3 H3 ex)) (ht:∀s3 H3 ex,t6 (l6 X N' scope s3 H3 ex (XE s3)) ifs (tc s3 H3 ex))
  (he:∀s3 H3 ex,FO X s3 H3 ex->PE (l6 X N' scope s3 H3 ex (XE s3)) elt (te s3 H3 ex)) (I:Inv X pins σ H s) (h:sT wi m g tc te σ H Q)
  (fin:∀D C s' H',Inv X pins σ H' s'->i7 X pins H' C->(∃m,s'.heap.Ns C m)->Q (.ref D) H'->compPost (model X.prog X.w) X.A X.xe use Q' (.ref D) C (.ok .next) s') :
  wpAny (model X.prog X.w) X.A (eval iter X.env) (fun x cw=>wpAny (model X.prog X.w) X.A (pyIter x) (fun it jn=>wpAny (model X.prog X.w) X.A (newList []) (fun acc mQ=>
   wpAny (model X.prog X.w) X.A (newFunctionEnv scope X.env.globals (j9 X.env.cells scope.names []) [] X.env.qual none .none (some X.env)) (fun qi rM=>
    codeAny (model X.prog X.w) X.A (.compStart (.ListComp elt [⟨tg,iter,ifs,0⟩] scope pos) 0 it acc { qi with scope:=relabel scope X.env }) (compPost (model X.prog X.w) X.A X.xe use Q' acc qi.locals) rM) X.xe mQ) X.xe jn) X.xe cw) X.xe s:=by
 refine cK (hi pins s σ H _ I h) fun v s1 h1=>cK h1 fun Eg s2 h2=>?_
 obtain⟨it,fp,tn,J,H2,e,I2,T,o3,f2,h⟩:=h2;subst e;refine wpAny_newObj_type (Ox fun jI tR=>?_);have hf:H2 s2.heap.objs.size=none:=I2.cB.fresh (aw _);obtain⟨W,⟨k0,w0⟩,turn⟩:=h s2.heap.objs.size hf { s2 with heap:=s2.heap.push { cls:=.type "list",data:=.seq ([]:List Value).toArray } } fp;have I3:Inv X pins σ (upd H2 s2.heap.objs.size (.lst [])) { s2 with heap:=s2.heap.push { cls:=.type "list",data:=.seq ([]:List Value).toArray } }:=I2.yV (its:=[]) (t':=s2.toks) .nil (by simp);have KG:∀b∈fp,b<s2.heap.objs.size:=fun b hb=>by
  obtain⟨o,e,_⟩:=T.obj _ _ o3 b hb;exact aq e
 have f3:∀b∈fp,i7 X pins (upd H2 s2.heap.objs.size (.lst [])) b:=fun b hb=>⟨by rw[cN (aD (KG b hb))];exact(f2 b hb).1,(f2 b hb).2⟩
 generalize J4:({ s2 with heap:=s2.heap.push { cls:=.type "list",data:=.seq ([]:List Value).toArray } }:Shared)=s3 at *;have hC:s3.heap.objs.size=s2.heap.objs.size+1:=by rw[<-J4];exact Heap.size_push ..
 have Fw:∀b∈fp,b<s3.heap.objs.size:=fun b hb=>by rw[hC];exact Nat.lt_succ_of_lt (KG b hb)
 have k3:∀b o,s2.heap.get? b=some o->s3.heap.get? b=some o:=fun b o e=>by rw[<-J4];exact af _ e
 have k1:∀b o,s3.heap.get? b=some o->jI.get? b=some o:=fun b o e=>by rw[tR];exact pushCells_keeps _ _ b o (af _ e)
 have J0:=Ow (XE:=XE s3) (tk:=s3.toks) cs I3 f3 Fw tR;have uz:tn 0 jI:=T.keep _ _ _ o3 fun b _ o e=>k1 b o (k3 b o e)
 have Fv:∀{H':Hp},(∀b∈fp,H' b=none)->∀b∈fp,i7 (l6 X N' scope s3 (upd H2 s2.heap.objs.size (.lst [])) fp (XE s3)) [] H' b:=fun hn b hb=>
  ⟨hn b hb,aD (Fw b hb),J0.ok.oA b hb,.inl hb,(J0.ok.exf b hb).2,fun p hp=>by cases hp⟩
 have jK:∀b∈fp,(upd H2 s2.heap.objs.size (.lst [])) b=none:=fun b hb=>(f3 b hb).1
 have loop:codeAny (model X.prog X.w) X.A (.compLoop (.ListComp elt [⟨tg,iter,ifs,0⟩] scope pos) 0 (.ref it) (.ref s2.heap.objs.size) (compEnvC scope (cellsFrom (s3.heap.objs.size+1) scope.names (j9 X.env.cells scope.names [])) s3.heap.objs.size X.env))
   (compPost (model X.prog X.w) X.A X.xe use Q' (.ref s2.heap.objs.size) s3.heap.objs.size) { s3 with heap:=jI }:=by
  refine Rb (zy s3) (fun n s'=>∃i cc H',Inv (l6 X N' scope s3 (upd H2 s2.heap.objs.size (.lst [])) fp (XE s3)) [] cc H' s'/\tn i s'.heap/\(∀b∈fp,H' b=none)/\W i n cc H') ?_ k0 ⟨0,_,_,J0,uz,jK,w0⟩;rintro n s4 ⟨i,mE,H4,I4,JC,wB,w4⟩;rcases turn i n mE H4 w4 with⟨stop,qn⟩ | ⟨go,N,hN,step⟩
  ·refine cK (T.done (l6 X N' scope s3 (upd H2 s2.heap.objs.size (.lst [])) fp (XE s3)) rfl rfl rfl hc i [] s4 mE H4 _ I4 (Fv wB) JC stop) fun r s5 bV=>?_
   obtain⟨hr,I5⟩:=bV;subst hr;have o6:∀b∈fp,(b∈X.ex\/X.cS.heap.objs.size<=b)/\b≠X.env.locals/\(∀x c,X.env.cells.lookup x=some c->c≠b)/\∀p∈X.pn++pins,p.1≠b:=fun b hb=>⟨(f2 b hb).2.2.2.1,(f2 b hb).2.1,(f2 b hb).2.2.2.2.1,(f2 b hb).2.2.2.2.2⟩
   have I6:Inv X pins σ H4 s5:=I3.zF (ch:=fp) I5.os I5.base I5.cB I5.bare o6;obtain⟨m5,UH,_⟩:=id I5.loc;exact fin _ _ s5 H4 I6 (I3.oz (aw _) I5.free) ⟨m5,UH⟩ qn
  ·refine cK (T.item (l6 X N' scope s3 (upd H2 s2.heap.objs.size (.lst [])) fp (XE s3)) rfl rfl rfl hc i [] s4 mE H4 _ I4 (Fv wB) JC go) fun r s5 bV=>?_
   obtain⟨u,hr,h5⟩:=bV;subst hr;refine cK h5 fun _ s6 bV=>?_
   obtain⟨x,H6,I6,r6,y6,DT,Vo⟩:=bV;have VG:=I6.pinned (Fv Vo) (T.obj _ _ DT);refine cK (hg _ _ _ _ s6 mE H6 x u _ VG r6 (step x H6 y6)) fun _ s7 bV=>?_
   obtain⟨mD,H7,I7,q7⟩:=bV;refine cK (ht _ _ _ _ s7 mD H7 _ I7 q7) fun b s8 bV=>?_
   obtain⟨H8,I8,q8⟩:=bV;have again:∀{s9:Shared} {xc:St} {H9:Hp},Inv (l6 X N' scope s3 (upd H2 s2.heap.objs.size (.lst [])) fp (XE s3)) ([]++xx fp s6.heap) xc H9 s9->N xc H9->∃m,m<n/\∃i cc H',Inv (l6 X N' scope s3 (upd H2 s2.heap.objs.size (.lst [])) fp (XE s3)) [] cc H' s9/\tn i s9.heap/\(∀b∈fp,H' b=none)/\W i m cc H':=fun{s9 xc H9} I9 n9=>by
    obtain⟨m',hm,w9⟩:=hN xc H9 n9;refine⟨m',hm,i+1,xc,H9,I9.ik,T.keep _ _ _ DT fun b hb o e=>(I9.pin (b,o) (aV _ (aV _ (AI hb e)))).1,fun b hb=>?_,w9⟩;obtain⟨o,e,d⟩:=T.obj _ _ DT b hb;exact(I9.pin (b,o) (aV _ (aV _ (AI hb e)))).2.1
   cases b with
   | false=>exact again I8 q8
   | true=>
    rw[if_pos rfl];refine cK (he _ _ _ ⟨pins,σ,I3,fun b hb=>⟨f3 b hb,Fw b hb⟩⟩ _ s8 mD H8 _ I8 q8) fun y s9 bV=>?_
    obtain⟨v9,H9,I9,r9,xs,hD,hz,q9⟩:=bV;refine cK (C7 _ s9 mD H9 (.ref s2.heap.objs.size) [v9] (.ref s2.heap.objs.size) [y] (fun _ H'=>N mD H') I9 rfl (.cons r9 .nil) ⟨_,xs,v9,rfl,rfl,hD,hz,q9⟩) fun _ VO bV=>?_
    obtain⟨_,V6,t9,_,TQ⟩:=bV;exact again t9 TQ
 exact codeAny_compStart_list loop (T.self _ 0 _ _ _ uz loop)
theorem Ov{XE:Shared->Value->Shared->Prop}(zy:∀s3 x s',XE s3 x s'->notedBy (model X.prog X.w) X.A (compEnvC scope (cellsFrom (s3.heap.objs.size+1) scope.names (j9 X.env.cells scope.names [])) s3.heap.objs.size X.env) (FP X s3.heap.objs.size) x s')(hc:X.calm=true)(cs:cp X N' m scope)(hi:PI X tg iter wi)(hg:∀s3 H3 ex,PG (l6 X N' scope s3 H3 ex (XE s3)) tg (g s3 H3 ex))(ht:∀s3 H3 ex,t6 (l6 X N' scope s3 H3 ex (XE s3)) ifs (tc s3 H3 ex))
  (he:∀s3 H3 ex,FO X s3 H3 ex->PE (l6 X N' scope s3 H3 ex (XE s3)) elt (te s3 H3 ex)) (hs:∀x,foldedSetIterable iter X.env x=pure x:=by intro _;rfl):PE X (.ListComp elt [⟨tg,iter,ifs,0⟩] scope pos) (sT wi m g tc te):=by
 intro pins s σ H Q I h;rw[eval_ListComp];have eT:∀y∈scope.names,y.2=.free->∃c,X.env.cells.lookup y.1=some c:=fun y hy hf=>I.ok.has y.1 (cs.free y hy hf)
 refine wpAny_comprehension_free (use:=none) rfl hs (Jl eT) cs.kind (fun y hy hl=>by rw[cs.uniq y hy,hl]) (II zy hc cs hi hg ht he I h fun D C s' H' I' fC ⟨mC,hn⟩ q=>?_);refine⟨mC,hn,fun h' sb=>⟨.ref D,H',I'.turned (t':=s'.toks) (fun b o hb e=>(sb.2 b hb).trans e) fC.1 fC.2.1 fC.2.2.2.1 fC.2.2.2.2.1 fC.2.2.2.2.2,rfl,q⟩⟩
theorem Nt(hc:X.calm=true)(cs:cp X N' m scope)(hi:PI X tg iter wi)(hg:∀s3 H3 ex,PG (lM X N' scope s3 H3 ex) tg (g s3 H3 ex))(ht:∀s3 H3 ex,t6 (lM X N' scope s3 H3 ex) ifs (tc s3 H3 ex))
  (he:∀s3 H3 ex,PE (lM X N' scope s3 H3 ex) elt (te s3 H3 ex)) (hs:∀x,foldedSetIterable iter X.env x=pure x:=by intro _;rfl):PE X (.ListComp elt [⟨tg,iter,ifs,0⟩] scope pos) (sT wi m g tc te):=Ov (XE:=fun _ _ _=>False) (fun _ _ _ z=>z.elim) hc cs hi hg ht (fun s3 H3 ex _=>he s3 H3 ex) hs
theorem O7{XE:Shared->Value->Shared->Prop}(zy:∀s3 x s',XE s3 x s'->notedBy (model X.prog X.w) X.A (compEnvC scope (cellsFrom (s3.heap.objs.size+1) scope.names (j9 X.env.cells scope.names [])) s3.heap.objs.size X.env) (FP X s3.heap.objs.size) x s'){i:Nat}{x:Str}{pos' iD:Pos}(hN:X.N.Nodup)(sj:X.N[i]?=some x)(hx:Loc X.env.scope x)
  (hc:X.calm=true) (cs:cp X N' m scope) (hi:PI X tg iter wi) (hg:∀s3 H3 ex,PG (l6 X N' scope s3 H3 ex (XE s3)) tg (g s3 H3 ex)) (ht:∀s3 H3 ex,t6 (l6 X N' scope s3 H3 ex (XE s3)) ifs (tc s3 H3 ex))
  (he:∀s3 H3 ex,FO X s3 H3 ex->PE (l6 X N' scope s3 H3 ex (XE s3)) elt (te s3 H3 ex)) (hs:∀x,foldedSetIterable iter X.env x=pure x:=by intro _;rfl)
  (rV:swapsWith (.ListComp elt [⟨tg,iter,ifs,0⟩] scope pos) (some (.Name x pos')) iD.line X.env=pure true:=by rfl)
  (hf:X.fn x=true\/X.env.scope.names.lookup x=some .local:=by first | exact .inl rfl | exact .inr rfl | assumption) :
  PS X (.Assign [.Name x pos'] (.ListComp elt [⟨tg,iter,ifs,0⟩] scope pos) iD) (zR (sT wi m g tc te) (zZ i)):=by
 intro pins s σ H D I h;have eT:∀y∈scope.names,y.2=.free->∃c,X.env.cells.lookup y.1=some c:=fun y hy hf=>I.ok.has y.1 (cs.free y hy hf)
 rw[exec_Assign_Name_used _ _ _ _ rV];refine aa (wpAny_standAt (aa ?_));show wpAny _ _ (do let _ <-comprehension (.ListComp elt [⟨tg,iter,ifs,0⟩] scope pos) scope X.env _ (newList []) false (eval iter X.env) (some (assign (.Name x pos') X.env))) _ _ s;refine aa (bc (wpAny_comprehension_free (use:=some (assign (.Name x pos') X.env)) (Q:=fun _ s'=>SP X pins D .next s') rfl hs (Jl eT) cs.kind (fun y hy hl=>by rw[cs.uniq y hy,hl]) (II zy hc cs hi hg ht he I h fun A C s' H' I' fC ⟨mC,hn⟩ q=>?_)) (fun _ s' hq=>ag (ag hq)) fun _ _ e=>e);show wpAny _ _ (assign (.Name x pos') X.env (.ref A)) _ _ _;refine wpAny_assign_Name (ID I' hN sj hx (show RelV (.ref A) (.ref A) from rfl) (fun s2 I2 Ux=>?_) hf);obtain⟨a,Tx,ha⟩:=Ux;have Vg:C≠a:=by
  rcases ha with rfl | ha
  ·exact fC.2.1
  ·exact fun z=>fC.2.2.2.2.1 x a ha z.symm
 refine⟨mC,hn.sameBut Tx Vg,fun h' sb=>⟨_,H',I2.turned (t':=s2.toks) (fun b o hb e=>(sb.2 b hb).trans e) fC.1 fC.2.1 fC.2.2.2.1 fC.2.2.2.2.1 fC.2.2.2.2.2,q⟩⟩
theorem CB{i:Nat}{x:Str}{pos' iD:Pos}(hN:X.N.Nodup)(sj:X.N[i]?=some x)(hx:Loc X.env.scope x)
  (hc:X.calm=true) (cs:cp X N' m scope) (hi:PI X tg iter wi) (hg:∀s3 H3 ex,PG (lM X N' scope s3 H3 ex) tg (g s3 H3 ex)) (ht:∀s3 H3 ex,t6 (lM X N' scope s3 H3 ex) ifs (tc s3 H3 ex))
  (he:∀s3 H3 ex,PE (lM X N' scope s3 H3 ex) elt (te s3 H3 ex)) (hs:∀x,foldedSetIterable iter X.env x=pure x:=by intro _;rfl)
  (rV:swapsWith (.ListComp elt [⟨tg,iter,ifs,0⟩] scope pos) (some (.Name x pos')) iD.line X.env=pure true:=by rfl)
  (hf:X.fn x=true\/X.env.scope.names.lookup x=some .local:=by first | exact .inl rfl | exact .inr rfl | assumption) :
  PS X (.Assign [.Name x pos'] (.ListComp elt [⟨tg,iter,ifs,0⟩] scope pos) iD) (zR (sT wi m g tc te) (zZ i)):=O7 (XE:=fun _ _ _=>False) (fun _ _ _ z=>z.elim) hN sj hx hc cs hi hg ht (fun s3 H3 ex _=>he s3 H3 ex) hs rV hf
end
end L2
namespace L2
open PySem PySem.Spec PyProof.Rows
theorem M5:2<=sizeLine:=by decide
theorem Inv.kR{X:Cx}{pins:List (Addr×Obj)}{σ:St}{H:Hp}{s:Shared}{h':Heap}{t':Nat}{fp:List Addr}(I:Inv X pins σ H s)(k:∀b o,b∉fp->s.heap.get? b=some o->h'.get? b=some o)(f:∀b∈fp,i7 X pins H b) :
  Inv X pins σ H { s with heap:=h',toks:=t' }:=by
 have tH:∀b u,H b=some u->b∉fp:=fun b u e z=>by rw[(f b z).1] at e;cases e
 refine I.step (g':=s.gens) (d':=s.drawn) (ch:=fp) (fun b hb=>⟨(f b hb).2.2.2.1,(f b hb).2.1,(f b hb).2.2.2.2.1,(f b hb).2.2.2.2.2⟩) (fun b o _ _ hc e _=>k b o hc e) (fun b o _ _ hc e _=>⟨o.slots,k b o hc e⟩) (fun _ _ _ _ n=>n)
  (fun b o hc e=>⟨o,k b o hc e⟩) (fun _ _ e=>e) (fun _ _ _ e=>e) (fun b ps e=>⟨#[],by rw[e];simp⟩) (fun m hm=>?_) (fun b u e=>?_) I.bare
 ·obtain⟨o,es,ep,ho,r⟩:=hm;exact⟨o,es,ep,k _ o (fun z=>(f _ z).2.1 rfl) ho,r⟩
 ·refine(I.cB b u e).jq (fun c v hc q=>k c v ?_ q) (fun _ q=>q) fun _ _ q=>q
  rcases hc with z | z
  ·rw[z];exact tH b u e
  ·exact tH c _ z
theorem Inv.og{X:Cx}{pins:List (Addr×Obj)}{σ:St}{H:Hp}{s:Shared}{h':Heap}{t':Nat}{fp:List Addr}{a:Addr}{o:HO}(I:Inv X pins σ H s)(k:∀b o,b∉fp->s.heap.get? b=some o->h'.get? b=some o)(f:∀b∈fp,i7 X pins H b)
  (hp:s.heap.objs.size<=a) (new:dF X.prog X.w (upd H a o) h' a o):Inv X pins σ (upd H a o) { s with heap:=h',toks:=t' }:=by
 have eT:H a=none:=I.cB.fresh hp;have tH:∀b u,H b=some u->b∉fp:=fun b u e z=>by rw[(f b z).1] at e;cases e
 refine I.step (g':=s.gens) (d':=s.drawn) (ch:=fp) (fun b hb=>⟨(f b hb).2.2.2.1,(f b hb).2.1,(f b hb).2.2.2.2.1,(f b hb).2.2.2.2.2⟩) (fun b o _ _ hc e _=>k b o hc e) (fun b o _ _ hc e _=>⟨o.slots,k b o hc e⟩)
  (fun b o _ q n=>by rw[cN (aD (aF (aq q) hp))];exact n)
  (fun b o hc e=>⟨o,k b o hc e⟩) (fun b zs q=>by rw[cN (gX q eT)];exact q) (fun b ob zs q=>by rw[cN (gX q eT)];exact q) (fun b ps q=>⟨#[],by rw[cN (gX q eT),q];simp⟩) (fun m hm=>?_) (fun b u q=>?_) I.bare
 ·obtain⟨o,es,ep,ho,r⟩:=hm;exact⟨o,es,ep,k _ o (fun z=>(f _ z).2.1 rfl) ho,r⟩
 ·by_cases hb:b=a
  ·subst hb;rw[gB] at q;cases q;exact new
  ·rw[cN hb] at q;refine(I.cB b u q).jq (fun c v hc z=>k c v ?_ z) (fun c z=>by rw[cN (gX z eT)];exact z) fun c zs z=>by rw[cN (gX z eT)];exact z
   rcases hc with rfl | hc
   ·exact tH _ _ q
   ·exact tH _ _ hc
noncomputable def BC(x:Str):It:=⟨fun i _=>i<x.cps.size,fun i H v H'=>H'=H/\∃c,x.cps[i]?=some c/\v=.str ⟨#[c]⟩,fun i _=>i=x.cps.size⟩
theorem O6{P:Program}{w:World}{K:PySem.W.Frag}{tg:Expr}{x:Str}{it:Addr}{n:String}{t:Tok}(hn:["enumerate","zip","dict_itemiterator","dict_reverseitemiterator","odict_iterator","itertools.zip_longest","itertools.pairwise"].contains n=false)
  (W:∀A':Around,A'.handled=none->Walks P w A' it [it] [it] x.cps.size (SignAt x) (fun i h=>h.IsStrIter it n x t i))
  (hs:∀(A:Around) (i:Nat) (s:Shared) (Q:Value->Shared->Prop) (E:Value->Shared->Prop),s.heap.IsStrIter it n x t i->Q (.ref it) s->wpAny (model P w) A (pyIter (.ref it)) Q E s):Turn P w K tg (BC x) [it] it (fun i h=>h.IsStrIter it n x t i) where
 mem:=by simp
 obj:=fun i h st b hb=>by
  have e:b=it:=by simpa using hb
  subst e;obtain⟨o,e,c,d⟩:=st;exact⟨o,e,fun v z=>by rw[d] at z;cases z⟩
 keep:=fun i h h' st k=>by
  obtain⟨o,e,r⟩:=st;exact⟨o,k it (by simp) o e,r⟩
 item:=by
  intro X hP hw hK hc i pins s σ H E I hf st hg;subst hP hw hK;refine(W X.A (I.ok.hd hc)).item i s _ _ hg st fun v h' tk hv fv kk=>?_
  obtain⟨c,u,hx,rfl⟩:=hv;have I1:Inv X pins σ H { s with heap:=h',toks:=tk }:=I.kR kk hf;obtain⟨o,e,c',d⟩:=id fv;exact⟨_,rfl,zY (s:={ s with heap:=h',toks:=tk }) e c' d hn ⟨.str ⟨#[c]⟩,H,I1,⟨u,rfl⟩,⟨rfl,c,hx,rfl⟩,fv,fun b hb=>(hf b hb).1⟩⟩
 done:=by
  intro X hP hw hK hc i pins s σ H E I hf st hg;subst hP hw hK;have e:i=x.cps.size:=hg;subst e;exact(W X.A (I.ok.hd hc)).done s _ _ st fun h' tk kk=>⟨rfl,I.kR kk hf⟩
 self:=hs
section
variable {X:Cx} {tg:Expr}
theorem M4{pins:List (Addr×Obj)}{σ:St}{H:Hp}{s:Shared}{R:It->Hp->Prop}{E:Value->Shared->Prop}{x:Str}{t:Tok}(I:Inv X pins σ H s)(q:R (BC x) H) :
  wpAny (model X.prog X.w) X.A (pyIter (.str x t)) (BA X pins σ tg R) E s:=by
 have fin:∀(o:Obj) (n:String),(hn:["enumerate","zip","dict_itemiterator","dict_reverseitemiterator","odict_iterator","itertools.zip_longest","itertools.pairwise"].contains n=false)->
   (W:∀A':Around,A'.handled=none->Walks X.prog X.w A' s.heap.objs.size [s.heap.objs.size] [s.heap.objs.size] x.cps.size (SignAt x) (fun i h=>h.IsStrIter s.heap.objs.size n x t i))->
   (hs:∀(A:Around) (i:Nat) (s':Shared) (Q:Value->Shared->Prop) (E:Value->Shared->Prop),s'.heap.IsStrIter s.heap.objs.size n x t i->Q (.ref s.heap.objs.size) s'->wpAny (model X.prog X.w) A (pyIter (.ref s.heap.objs.size)) Q E s')->
   (s.heap.push o).IsStrIter s.heap.objs.size n x t 0->BA X pins σ tg R (.ref s.heap.objs.size) { s with heap:=s.heap.push o }:=fun o n hn W hs st=>by
  refine⟨s.heap.objs.size,[s.heap.objs.size],_,_,H,rfl,I.kept (t':=s.toks) fun b o e=>af _ e,O6 hn W hs,st,fun b hb=>?_,q⟩;have e:b=s.heap.objs.size:=by simpa using hb
  subst e;exact I.oz (aw _) (I.cB.fresh (aw _))
 cases ha:x.cps.all (·<128)
 ·exact wpAny_pyIter_wide ha (fin _ _ (by decide) (fun A' hA=>Walks.strWide hA _ x t) (fun _ _ _ _ _ st q=>wpAny_pyIter_striter_wide st q) ⟨_,ax _ rfl,rfl,rfl⟩)
 ·exact wpAny_pyIter_ascii ha (fin _ _ (by decide) (fun A' hA=>Walks.strAscii hA _ x t) (fun _ _ _ _ _ st q=>wpAny_pyIter_striter_ascii st q) ⟨_,ax _ rfl,rfl,rfl⟩)
def K9(K:PySem.W.Frag)(tl:TE):TI:=fun σ H R=>tl σ H fun x H1=>(∃a,x=.ref a/\(∃xs,gc K H1 a xs)/\R (FJ K a) H1)\/(∃a,x=.ref a/\(∃xs,fH K H1 a xs)/\R (FI K a) H1)\/(∃z,x=.str z/\R (BC z) H1)
theorem M3{l:Expr}{tl:TE}(hl:PE X l tl):PI X tg l (K9 X.K tl):=by
 intro pins s σ H R I h;refine cK (hl pins s σ H _ I h) fun v s1 bV=>?_
 obtain⟨x,H1,I1,r1,q1⟩:=bV;rcases q1 with⟨a,e,⟨xs,hq⟩,q⟩ | ⟨a,e,⟨xs,hq⟩,q⟩ | ⟨z,e,q⟩
 ·subst e;cases r1;obtain⟨its,rv,p,hz⟩:=I1.list hq;refine wpAny_pyIter_list p.isList ?_;refine⟨s1.heap.objs.size,[s1.heap.objs.size],_,_,H1,rfl,I1.kept (t':=s1.toks) fun b o e=>af _ e,P7 a _,⟨_,ax _ rfl,rfl,rfl⟩,fun b hb=>?_,q⟩;have e:b=s1.heap.objs.size:=by simpa using hb
  subst e;exact I1.oz (aw _) (I1.cB.fresh (aw _))
 ·subst e;cases r1;obtain⟨its,rv,p,hz⟩:=I1.tuple hq;refine wpAny_pyIter_tuple (show s1.heap.IsTuple a its.toArray from p) ?_;refine⟨s1.heap.objs.size,[s1.heap.objs.size],_,_,H1,rfl,I1.kept (t':=s1.toks) fun b o e=>af _ e,Qy a _,⟨_,ax _ rfl,rfl,rfl⟩,fun b hb=>?_,q⟩;have e:b=s1.heap.objs.size:=by simpa using hb
  subst e;exact I1.oz (aw _) (I1.cB.fresh (aw _))
 ·subst e;obtain⟨t,rfl⟩:=r1;exact M4 I1 q
end
noncomputable def FK(K:PySem.W.Frag)(a:Addr):It:=
 ⟨fun i H=>∃xs x,gc K H a xs/\xs[i]?=some x,fun i H v H'=>∃t,v=.ref t/\H t=none/\∀xs,gc K H a xs->∃x,xs[i]?=some x/\H'=upd H t (.tup [.int i,x]),fun i H=>∃xs,gc K H a xs/\xs.length<=i⟩
theorem MZ{H:Hp}{t:Addr}{o:HO}{fp:List Addr}(h:∀b∈fp,H b=none)(ht:∀b∈fp,b≠t):∀b∈fp,upd H t o b=none:=fun b hb=>by rw[cN (ht b hb)];exact h b hb
theorem QJ{prog:Program}{w:World}{A:Around}{E:Value->Shared->Prop}{s:Shared}{elts:List Expr}{x1}{pos:Pos}{e it T:Addr}{i:Int}{old:Value}{Q:Unit->Shared->Prop}(he:IsEnumOut s.heap e it i old T)
  (hQ:∀h',IsEnum h' e it i old->Heap.SameBut e s.heap h'->Q () { s with heap:=h' }) :
  wpAny (model prog w) A (letOwnedTupleGo (.Tuple elts x1 pos) (.ref e) (.ref T)) Q E s:=by
 unfold letOwnedTupleGo;refine aa (wpAny_load he ?_);show wpAny _ _ (if (["enumerate","zip","dict_itemiterator","dict_reverseitemiterator","odict_iterator","itertools.zip_longest","itertools.pairwise"].contains "enumerate" &&
   (#[rawInt T,.bool false,.ref it,rawInt i,.none,old]:Array Value)[0]?==some (rawInt T))=true then _ else _) Q E s
 rw[if_pos (by simp)];refine aa (wpAny_rule ?_);show wpAny _ _ (setField (.ref e) 0 .none) Q E s;exact wpAny_setField_rec he (by simp) fun h' Uh tN=>hQ h' Uh tN
theorem Qo{P:Program}{w:World}{K:PySem.W.Frag}{elts:List Expr}{x1}{pos:Pos}(a e it:Addr)(eP:e≠it):Turn P w K (.Tuple elts x1 pos) (FK K a) [e,it] e (fun i h=>(∃old,IsEnum h e it i old)/\h.IsListIter it a i) where
 mem:=by simp
 obj:=fun i h st b hb=>by
  obtain⟨⟨old,h1⟩,o,h2,c,d⟩:=st;rcases ah.mp hb with rfl | hb
  ·exact⟨_,h1,fun v z=>by have z':Data.fields _=Data.cell v:=z;cases z'⟩
  ·have e:b=it:=by simpa using hb
   subst e;exact⟨o,h2,fun v z=>by rw[d] at z;cases z⟩
 keep:=fun i h h' st k=>by
  obtain⟨⟨old,h1⟩,h2⟩:=st;exact⟨⟨old,k e (by simp) _ h1⟩,h2.at fun o q=>k it (by simp) o q⟩
 item:=by
  intro X hP hw hK hc i pins s σ H E I hf st hg;subst hP hw hK;obtain⟨xs,x,hq,hx⟩:=hg;obtain⟨its,rv,p,hz⟩:=I.list hq;obtain⟨u,hu,ru⟩:=rv.get hx;obtain⟨⟨old,h1⟩,h2⟩:=st;refine wpAny_pyNext_enum_item h1 h2 p.isList (x:=u) (by simpa using hu) eP fun h' e1 e2 e3 e4 kk=>?_
  refine⟨_,rfl,QJ e1 fun Kz e5 sb=>?_⟩;have JZ:s.heap.objs.size≠e:=Nat.ne_of_gt (aq h1);have Us:s.heap.objs.size≠it:=by obtain⟨o,q,_⟩:=h2;exact Nat.ne_of_gt (aq q)
  have hT:Kz.get? s.heap.objs.size=some { cls:=.type "tuple",data:=.seq #[.int i s.toks,u] }:=sb.extBut _ _ JZ e3;have eT:H s.heap.objs.size=none:=I.cB.fresh (aw _);have new:dF X.prog X.w (upd H s.heap.objs.size (.tup [.int i,x])) Kz s.heap.objs.size (.tup [.int i,x]):=⟨M5,[.int i s.toks,u],.cons ⟨_,rfl⟩ (.cons ru .nil),⟨_,hT,rfl,_,rfl⟩⟩
  refine⟨.ref s.heap.objs.size,upd H s.heap.objs.size (.tup [.int i,x]),I.og (fp:=[e,it]) (fun b o hb q=>sb.extBut b o (fun z=>hb (by simp[z])) (kk b o (fun z=>hb (by simp[z])) (fun z=>hb (by simp[z])) q)) hf (aw _) new,rfl,
   ⟨_,rfl,eT,fun ys hy=>⟨x,by rw[I.jH hy hq];exact hx,rfl⟩⟩,⟨⟨u,e5⟩,e2.extBut sb.extBut (Ne.symm eP)⟩,MZ (fun b hb=>(hf b hb).1) fun b hb=>?_⟩
  rcases ah.mp hb with rfl | hb
  ·exact JZ.symm
  ·have z:b=it:=by simpa using hb
   rw[z];exact Us.symm
 done:=by
  intro X hP hw hK hc i pins s σ H E I hf st hg;subst hP hw hK;obtain⟨xs,hq,hx⟩:=hg;obtain⟨its,rv,p,hz⟩:=I.list hq;obtain⟨⟨old,h1⟩,h2⟩:=st;have hl:=rv.length;exact wpAny_pyNext_enum_end (I.ok.hd hc) h1 h2 p.isList (by simp;omega) fun h' eb=>⟨rfl,I.kR (fp:=[e,it]) (t':=s.toks) (fun b o hb q=>eb b o (fun z=>hb (by simp[z])) q) hf⟩
 self:=fun _ _ _ _ _ st h=>by
  obtain⟨⟨old,h1⟩,_⟩:=st;exact wpAny_pyIter_enum h1 h
end L2
namespace L2
open PySem PySem.Spec PyProof.Rows
section
variable {X:Cx} {elts:List Expr} {x1:Nat} {yC:Pos}
def LX(K:PySem.W.Frag)(ta:TA):TI:=fun σ H R=>ta σ H fun vs H1=>∃a xs,vs=[.ref a]/\j6 K H1 a xs/\R (FK K a) H1
theorem Nr{a:Expr}{ta:TA}{p pos:Pos}(hg:Gl X "enumerate")(hm:X.mg "enumerate"=none)(ha:PA X [a] ta)(hs:starEach [a] X.env=[(false,eval a X.env)]:=by rfl):PI X (.Tuple elts x1 yC) (.Call (.Name "enumerate" p) [a] [] pos) (LX X.K ta):=by
 intro pins s σ H R I h;refine Call_ (uj I hg hm boot_enumerate (PyProof.Rows.callWith_type1 (cK (ha pos pins s σ H _ I h) fun us s1 bV=>?_) hs rfl));obtain⟨vs,H1,I1,r1,q1⟩:=bV;obtain⟨l,xs,e,hl,q⟩:=q1;subst e;obtain⟨u,rfl,ru⟩:=lQ r1;cases ru;obtain⟨z,its,n,r,e⟩:=I1.gH hl;refine call_enumerate_1 e fun h' e1 e2 e3 kk=>?_
 refine wpAny_pyIter_enum e1 ?_;have eP:s1.heap.objs.size+1≠s1.heap.objs.size:=by omega
 refine⟨s1.heap.objs.size+1,[s1.heap.objs.size+1,s1.heap.objs.size],_,_,H1,rfl,I1.kept (t':=s1.toks) kk,Qo l _ _ eP,⟨⟨_,e1⟩,e2⟩,fun b hb=>?_,q⟩;have Fi:s1.heap.objs.size<=b:=by
  rcases ah.mp hb with rfl | hb
  ·exact bp _
  ·have e:b=s1.heap.objs.size:=by simpa using hb
   exact Nat.le_of_eq e.symm
 exact I1.oz Fi (I1.cB.fresh Fi)
end
end L2
namespace L2
open PySem PySem.Spec PyProof.Rows
inductive D where
 | non | bl (b:Bool) | int (i:Int) | str (x:Str) | tup (ds:List D) | lst (ds:List D) | obj (cn:Str) (fs:List (Str×D)) | dic (cI:List (Key×D)) | dit (cI:List (List Key×D)) | exc (cn:Str) (fs:List (Str×D)) | idn (a:Addr) (d:D)
structure ClsAt (K:PySem.W.Frag) (cn:Str) (C:Addr):Prop where
 at_:PySem.W.nsIn K mainGlobals cn=some (some (.ref C))
 cls:ua K C
def jk(H:Hp):List (List Key×V)->List Addr->Prop
 | [],[]=>True
 | p::ps,b::bs=>H b=some (.tup (p.1.map kV))/\jk H ps bs
 | _,_=>False
theorem jk.mono{H H':Hp}(e:bL H H'):∀{ps:List (List Key×V)} {bs:List Addr},jk H ps bs->jk H' ps bs
 | [],[],h=>h
 | p::ps,b::bs,h=>⟨e _ _ h.1,jk.mono e h.2⟩
 | [],_::_,h=>h.elim
 | _::_,[],h=>h.elim
def nc(H:Hp):Option Addr->List (Str×V)->Prop
 | none,gs=>gs=[]
 | some dx,gs=>∃ψ,H dx=some (.ext ψ)/\∀h:Heap,ψ h->∃mA,h.Ns1 dx mA/\∀f v,gs.lookup f=some v->∃u,mA f=some u/\RelV v u
theorem nc.mono{H H':Hp}(e:bL H H'){dd:Option Addr}{gs:List (Str×V)}(h:nc H dd gs):nc H' dd gs:=by
 cases dd with
 | none=>exact h
 | some dx=>exact let⟨ψ,a,b⟩:=h;⟨ψ,e _ _ a,b⟩
mutual
def Rep(K:PySem.W.Frag)(H:Hp):V->D->Prop
 | v,.non=>v=.non
 | v,.bl b=>v=.bl b
 | v,.int i=>v=.int i
 | v,.str x=>v=.str x
 | v,.tup ds=>∃a xs,v=.ref a/\H a=some (.tup xs)/\bB K H xs ds
 | v,.lst ds=>∃a xs,v=.ref a/\j6 K H a xs/\bB K H xs ds
 | v,.obj cn fs=>∃a C dx gs,v=.ref a/\H a=some (.ins C dx gs)/\ClsAt K cn C/\(∀p∈fs,cO K C p.1)/\cE K H gs fs
 | v,.dic cI=>∃a ks ep,v=.ref a/\H a=some (.dK ks ep)/\fk K H ks cI
 | v,.dit cI=>∃a ks bs,v=.ref a/\H a=some (.dT ks bs)/\jk H ks bs.1/\fV K H ks cI
 | v,.exc cn fs=>∃a φ C dd gs,v=.ref a/\H a=some (.ext φ)/\PySem.W.nsIn K mainGlobals cn=some (some (.ref C))/\(∀h:Heap,φ h->∃o,h.get? a=some o/\o.cls=.ref C/\(fs=[]\/o.dict=dd/\∃vs,o.data=.fields vs))/\(fs=[]\/nc H dd gs)/\cE K H gs fs
 | v,.idn a d=>v=.ref a/\Rep K H v d
def bB(K:PySem.W.Frag)(H:Hp):List V->List D->Prop
 | [],[]=>True
 | v::vs,d::ds=>Rep K H v d/\bB K H vs ds
 | _,_=>False
def cE(K:PySem.W.Frag)(H:Hp):List (Str×V)->List (Str×D)->Prop
 | [],[]=>True
 | v::vs,d::ds=>(v.1=d.1/\Rep K H v.2 d.2)/\cE K H vs ds
 | _,_=>False
def fk(K:PySem.W.Frag)(H:Hp):List (Key×V)->List (Key×D)->Prop
 | [],[]=>True
 | v::vs,d::ds=>(v.1=d.1/\Rep K H v.2 d.2)/\fk K H vs ds
 | _,_=>False
def fV(K:PySem.W.Frag)(H:Hp):List (List Key×V)->List (List Key×D)->Prop
 | [],[]=>True
 | v::vs,d::ds=>(v.1=d.1/\Rep K H v.2 d.2)/\fV K H vs ds
 | _,_=>False
end
theorem bL.lV{K:PySem.W.Frag}{H H':Hp}{a:Addr}{xs:List V}(e:bL H H')(h:H a=some (.tup xs)):fH K H' a xs:=fH.of (e _ _ h)
theorem bL.oh{K:PySem.W.Frag}{H H':Hp}{a:Addr}{xs:List V}(e:bL H H')(h:fH K H a xs):fH K H' a xs:=by
 rcases h with(h | ⟨o,h⟩) | h
 ·exact .inl (.inl (e _ _ h))
 ·exact .inl (.inr ⟨o,e _ _ h⟩)
 ·exact .inr h
mutual
theorem Rep.mono{K:PySem.W.Frag}{H H':Hp}(e:bL H H'):∀(v:V) (d:D),Rep K H v d->Rep K H' v d
 | v,.non,h=>by simpa only[Rep] using h
 | v,.bl b,h=>by simpa only[Rep] using h
 | v,.int i,h=>by simpa only[Rep] using h
 | v,.str x,h=>by simpa only[Rep] using h
 | v,.tup ds,h=>by
  simp only[Rep] at h ⊢;obtain⟨a,xs,h1,h2,h3⟩:=h;exact⟨a,xs,h1,e _ _ h2,bB.mono e xs ds h3⟩
 | v,.lst ds,h=>by
  simp only[Rep] at h ⊢;obtain⟨a,xs,h1,h2,h3⟩:=h;exact⟨a,xs,h1,e.gH h2,bB.mono e xs ds h3⟩
 | v,.obj cn fs,h=>by
  simp only[Rep] at h ⊢;obtain⟨a,C,dx,gs,h1,h2,h3,h4,h5⟩:=h;exact⟨a,C,dx,gs,h1,e _ _ h2,h3,h4,cE.mono e gs fs h5⟩
 | v,.dic cI,h=>by
  simp only[Rep] at h ⊢;obtain⟨a,ks,ep,h1,h2,h3⟩:=h;exact⟨a,ks,ep,h1,e _ _ h2,fk.mono e ks cI h3⟩
 | v,.dit cI,h=>by
  simp only[Rep] at h ⊢;obtain⟨a,ks,bs,h1,h2,h3,h4⟩:=h;exact⟨a,ks,bs,h1,e _ _ h2,h3.mono e,fV.mono e ks cI h4⟩
 | v,.exc cn fs,h=>by
  simp only[Rep] at h ⊢;obtain⟨a,φ,C,dd,gs,h1,h2,h3,h4,h5,h6⟩:=h;exact⟨a,φ,C,dd,gs,h1,e _ _ h2,h3,h4,h5.imp id fun z=>z.mono e,cE.mono e gs fs h6⟩
 | v,.idn a d,h=>by
  simp only[Rep] at h ⊢;exact⟨h.1,Rep.mono e v d h.2⟩
theorem bB.mono{K:PySem.W.Frag}{H H':Hp}(e:bL H H'):∀(vs:List V) (ds:List D),bB K H vs ds->bB K H' vs ds
 | [],[],h=>by simp only[bB]
 | v::vs,d::ds,h=>by
  simp only[bB] at h ⊢;exact⟨Rep.mono e v d h.1,bB.mono e vs ds h.2⟩
 | [],_::_,h=>by simp only[bB] at h
 | _::_,[],h=>by simp only[bB] at h
theorem cE.mono{K:PySem.W.Frag}{H H':Hp}(e:bL H H'):∀(vs:List (Str×V)) (ds:List (Str×D)),cE K H vs ds->cE K H' vs ds
 | [],[],h=>by simp only[cE]
 | (x,v)::vs,(y,d)::ds,h=>by
  simp only[cE] at h ⊢;exact⟨⟨h.1.1,Rep.mono e v d h.1.2⟩,cE.mono e vs ds h.2⟩
 | [],_::_,h=>by simp only[cE] at h
 | _::_,[],h=>by simp only[cE] at h
theorem fk.mono{K:PySem.W.Frag}{H H':Hp}(e:bL H H'):∀(vs:List (Key×V)) (ds:List (Key×D)),fk K H vs ds->fk K H' vs ds
 | [],[],h=>by simp only[fk]
 | (x,v)::vs,(y,d)::ds,h=>by
  simp only[fk] at h ⊢;exact⟨⟨h.1.1,Rep.mono e v d h.1.2⟩,fk.mono e vs ds h.2⟩
 | [],_::_,h=>by simp only[fk] at h
 | _::_,[],h=>by simp only[fk] at h
theorem fV.mono{K:PySem.W.Frag}{H H':Hp}(e:bL H H'):∀(vs:List (List Key×V)) (ds:List (List Key×D)),fV K H vs ds->fV K H' vs ds
 | [],[],h=>by simp only[fV]
 | (x,v)::vs,(y,d)::ds,h=>by
  simp only[fV] at h ⊢;exact⟨⟨h.1.1,Rep.mono e v d h.1.2⟩,fV.mono e vs ds h.2⟩
 | [],_::_,h=>by simp only[fV] at h
 | _::_,[],h=>by simp only[fV] at h
end
section
variable {K:PySem.W.Frag} {H H':Hp}
theorem bB.length:∀{vs:List V} {ds:List D},bB K H vs ds->vs.length=ds.length
 | [],[],_=>rfl
 | v::vs,d::ds,h=>by
  simp only[bB] at h;simp only[aB,bB.length h.2]
 | [],_::_,h=>by simp only[bB] at h
 | _::_,[],h=>by simp only[bB] at h
theorem bB.get:∀{vs:List V} {ds:List D} {i:Nat} {d:D},bB K H vs ds->ds[i]?=some d->∃v,vs[i]?=some v/\Rep K H v d
 | [],[],i,d,_,e=>by simp at e
 | v::vs,d'::ds,0,d,h,e=>by
  simp only[bB] at h;simp only[List.getElem?_cons_zero,Option.some.injEq] at e;subst e;exact⟨v,rfl,h.1⟩
 | v::vs,d'::ds,i+1,d,h,e=>by
  simp only[bB] at h;simp only[List.getElem?_cons_succ] at e ⊢;exact bB.get h.2 e
 | [],_::_,_,_,h,_=>by simp only[bB] at h
 | _::_,[],_,_,h,_=>by simp only[bB] at h
theorem bB.zA:∀{vs:List V} {ds:List D} {i:Nat} {v:V},bB K H vs ds->vs[i]?=some v->∃d,ds[i]?=some d/\Rep K H v d
 | [],[],i,d,_,e=>by simp at e
 | v'::vs,d::ds,0,v,h,e=>by
  simp only[bB] at h;simp only[List.getElem?_cons_zero,Option.some.injEq] at e;subst e;exact⟨d,rfl,h.1⟩
 | v'::vs,d::ds,i+1,v,h,e=>by
  simp only[bB] at h;simp only[List.getElem?_cons_succ] at e ⊢;exact bB.zA h.2 e
 | [],_::_,_,_,h,_=>by simp only[bB] at h
 | _::_,[],_,_,h,_=>by simp only[bB] at h
theorem bB.nil:bB K H [] []:=by simp only[bB]
theorem bB.cons{v:V}{vs:List V}{d:D}{ds:List D}(h:Rep K H v d)(hs:bB K H vs ds):bB K H (v::vs) (d::ds):=by simp only[bB];exact⟨h,hs⟩
theorem bB.append:∀{vs:List V} {ds:List D} {us:List V} {es:List D},bB K H vs ds->bB K H us es->bB K H (vs++us) (ds++es)
 | [],[],_,_,_,h=>h
 | v::vs,d::ds,_,_,h,h'=>by
  simp only[bB] at h;exact bB.cons h.1 (bB.append h.2 h')
 | [],_::_,_,_,h,_=>by simp only[bB] at h
 | _::_,[],_,_,h,_=>by simp only[bB] at h
theorem bB.take:∀{vs:List V} {ds:List D} (n:Nat),bB K H vs ds->bB K H (vs.take n) (ds.take n)
 | _,_,0,_=>bB.nil
 | [],[],_+1,_=>bB.nil
 | v::vs,d::ds,n+1,h=>by
  simp only[bB] at h;exact bB.cons h.1 (bB.take n h.2)
 | [],_::_,_+1,h=>by simp only[bB] at h
 | _::_,[],_+1,h=>by simp only[bB] at h
theorem bB.drop:∀{vs:List V} {ds:List D} (n:Nat),bB K H vs ds->bB K H (vs.drop n) (ds.drop n)
 | _,_,0,h=>h
 | [],[],_+1,_=>bB.nil
 | v::vs,d::ds,n+1,h=>by
  simp only[bB] at h;exact bB.drop n h.2
 | [],_::_,_+1,h=>by simp only[bB] at h
 | _::_,[],_+1,h=>by simp only[bB] at h
end
structure Ext (G H G' H':Hp):Prop where
 g:bL G G'
 h:bL H H'
 s:bL G' H'
 n:∀p,G p=none->H p≠none->G' p=none
theorem Ext.refl{G H:Hp}(s:bL G H):Ext G H G H:=⟨bL.refl _,bL.refl _,s,fun _ h _=>h⟩
theorem Ext.trans{G H G1 H1 G2 H2:Hp}(a:Ext G H G1 H1)(b:Ext G1 H1 G2 H2):Ext G H G2 H2:=
 ⟨a.g.trans b.g,a.h.trans b.h,b.s,fun p h1 h2=>b.n p (a.n p h1 h2) fun z=>h2 (a.h.free z)⟩
theorem sZ{H:Hp}{p:Addr}{o:HO}(h:H p=none):bL H (upd H p o):=fun b u e=>by rw[cN (gX e h)];exact e
theorem Qn{G H:Hp}{p:Addr}{o:HO}(s:bL G H):bL (upd G p o) (upd H p o):=fun b u e=>by
 by_cases hb:b=p
 ·subst hb;rw[gB] at e ⊢;exact e
 ·rw[cN hb] at e ⊢;exact s b u e
theorem Ext.new{G H:Hp}{p:Addr}{o:HO}(s:bL G H)(h:H p=none):Ext G H (upd G p o) (upd H p o):=
 ⟨sZ (s.free h),sZ h,Qn s,fun q h1 h2=>by rw[cN (fun z=>h2 (by rw[z];exact h))];exact h1⟩
theorem Ext.own{G H:Hp}{p:Addr}{o:HO}(s:bL G H)(h:H p=none):Ext G H G (upd H p o):=
 ⟨bL.refl _,sZ h,s.trans (sZ h),fun q h1 _=>h1⟩
inductive OV where
 | ll (cg:List (List D))
 | dc (cI:List (Key×D))
 | dl (cI:List (Key×List D))
 | tl (d:D) (ds:List D)
 | ld (u6:List (List (Key×D)))
 | dt (cI:List (List Key×List D))
 | tp (ds:List D)
 | ob (cn:Str) (fs:List (Str×List D))
 | dq (cI:List (List Key×D))
 | li (a:Addr) (cg:List (List D))
noncomputable def OV.val:OV->D
 | .ll cg=>.lst (cg.map .lst)
 | .dc cI=>.dic cI
 | .dl cI=>.dic (cI.map fun p=>(p.1,.lst p.2))
 | .tl d ds=>.tup [d,.lst ds]
 | .ld u6=>.lst (u6.map .dic)
 | .dt cI=>.dit (cI.map fun p=>(p.1,.lst p.2))
 | .tp ds=>.tup ds
 | .ob cn fs=>.obj cn (fs.map fun p=>(p.1,.lst p.2))
 | .dq cI=>.dit cI
 | .li _ cg=>.lst (cg.map .lst)
inductive R where
 | fz (d:D)
 | ow (ds:List D)
 | ov (o:OV)
noncomputable def R.val:R->D
 | .fz d=>d
 | .ow ds=>.lst ds
 | .ov o=>o.val
inductive Sl where
 | un
 | fz (d:D)
 | ow (ds:List D)
 | ov (o:OV)
noncomputable def R.sl:R->Sl
 | .fz d=>.fz d
 | .ow ds=>.ow ds
 | .ov o=>.ov o
def b9(K:PySem.W.Frag)(G H:Hp):List Addr->List (List D)->Prop
 | [],[]=>True
 | q::qs,ds::cg=>(∃xs,H q=some (.lst xs)/\bB K G xs ds)/\b9 K G H qs cg
 | _,_=>False
theorem b9.mono{K:PySem.W.Frag}{G H G' H':Hp}(g:bL G G'):∀{qs:List Addr} {cg:List (List D)},(∀q∈qs,∀xs,H q=some (.lst xs)->H' q=some (.lst xs))->b9 K G H qs cg->b9 K G' H' qs cg
 | [],[],_,_=>by simp only[b9]
 | q::qs,ds::cg,hh,h=>by
  simp only[b9] at h ⊢;obtain⟨⟨xs,h1,h2⟩,h3⟩:=h;exact⟨⟨xs,hh q (by simp) xs h1,h2.mono g⟩,b9.mono g (fun r hr=>hh r (by simp[hr])) h3⟩
 | [],_::_,_,h=>by simp only[b9] at h
 | _::_,[],_,h=>by simp only[b9] at h
theorem b9.here{K:PySem.W.Frag}{G H:Hp}:∀{qs:List Addr} {cg:List (List D)},b9 K G H qs cg->∀q∈qs,H q≠none
 | [],[],_,q,hq=>by cases hq
 | q::qs,ds::cg,h,r,hr=>by
  simp only[b9] at h;obtain⟨⟨xs,h1,h2⟩,h3⟩:=h;rcases ah.mp hr with rfl | hr
  ·rw[h1];exact nofun
  ·exact b9.here h3 r hr
 | [],_::_,h,_,_=>by simp only[b9] at h
 | _::_,[],h,_,_=>by simp only[b9] at h
theorem b9.kU{K:PySem.W.Frag}{G H G':Hp}(g:bL G G'):∀{qs:List Addr} {cg:List (List D)},(∀q∈qs,∀xs,H q=some (.lst xs)->G' q=some (.lst xs))->b9 K G H qs cg->bB K G' (qs.map V.ref) (cg.map D.lst)
 | [],[],_,_=>bB.nil
 | q::qs,ds::cg,hh,h=>by
  simp only[b9] at h;obtain⟨⟨xs,h1,h2⟩,h3⟩:=h;refine bB.cons ?_ (b9.kU g (fun r hr=>hh r (by simp[hr])) h3);simp only[Rep];exact⟨q,xs,rfl,j6.of (hh q (by simp) xs h1),h2.mono g⟩
 | [],_::_,_,h=>by simp only[b9] at h
 | _::_,[],_,h=>by simp only[b9] at h
def eY(K:PySem.W.Frag)(G H:Hp):List Addr->List (List (Key×D))->Prop
 | [],[]=>True
 | q::qs,ds::cg=>(∃ks ep,H q=some (.dK ks ep)/\fk K G ks ds)/\eY K G H qs cg
 | _,_=>False
theorem eY.mono{K:PySem.W.Frag}{G H G' H':Hp}(g:bL G G'):∀{qs:List Addr} {cg:List (List (Key×D))},(∀q∈qs,∀u,H q=some u->H' q=some u)->eY K G H qs cg->eY K G' H' qs cg
 | [],[],_,_=>by simp only[eY]
 | q::qs,ds::cg,hh,h=>by
  simp only[eY] at h ⊢;obtain⟨⟨ks,ep,h1,h2⟩,h3⟩:=h;exact⟨⟨ks,ep,hh q (by simp) _ h1,fk.mono g _ _ h2⟩,eY.mono g (fun r hr=>hh r (by simp[hr])) h3⟩
 | [],_::_,_,h=>by simp only[eY] at h
 | _::_,[],_,h=>by simp only[eY] at h
theorem eY.kind{K:PySem.W.Frag}{G H:Hp}:∀{qs:List Addr} {cg:List (List (Key×D))},eY K G H qs cg->∀q∈qs,∃ks ep,H q=some (.dK ks ep)
 | [],[],_,q,hq=>by cases hq
 | q::qs,ds::cg,h,r,hr=>by
  simp only[eY] at h;obtain⟨⟨ks,ep,h1,h2⟩,h3⟩:=h;rcases ah.mp hr with rfl | hr
  ·exact⟨ks,ep,h1⟩
  ·exact eY.kind h3 r hr
 | [],_::_,h,_,_=>by simp only[eY] at h
 | _::_,[],h,_,_=>by simp only[eY] at h
theorem eY.here{K:PySem.W.Frag}{G H:Hp}{qs:List Addr}{cg:List (List (Key×D))}(h:eY K G H qs cg):∀q∈qs,H q≠none:=fun q hq=>by
 obtain⟨ks,ep,e⟩:=h.kind q hq;rw[e];exact nofun
theorem eY.kU{K:PySem.W.Frag}{G H G':Hp}(g:bL G G'):∀{qs:List Addr} {cg:List (List (Key×D))},(∀q∈qs,∀u,H q=some u->G' q=some u)->eY K G H qs cg->bB K G' (qs.map V.ref) (cg.map D.dic)
 | [],[],_,_=>bB.nil
 | q::qs,ds::cg,hh,h=>by
  simp only[eY] at h;obtain⟨⟨ks,ep,h1,h2⟩,h3⟩:=h;refine bB.cons ?_ (eY.kU g (fun r hr=>hh r (by simp[hr])) h3);simp only[Rep];exact⟨q,ks,ep,rfl,hh q (by simp) _ h1,fk.mono g _ _ h2⟩
 | [],_::_,_,h=>by simp only[eY] at h
 | _::_,[],_,h=>by simp only[eY] at h
def gJ(K:PySem.W.Frag)(G H:Hp)(p:Addr)(fp:List Addr):OV->Prop
 | .ll cg=>H p=some (.lst (fp.map V.ref))/\b9 K G H fp cg
 | .dc cI=>fp=[]/\∃ks ep,H p=some (.dK ks ep)/\fk K G ks cI
 | .dl cI=>∃ks ep,H p=some (.dK ks ep)/\ks.map (·.1)=cI.map (·.1)/\ks.map (·.2)=fp.map V.ref/\b9 K G H fp (cI.map (·.2))
 | .tl d ds=>∃q v xs,fp=[q]/\H p=some (.tup [v,.ref q])/\Rep K G v d/\H q=some (.lst xs)/\bB K G xs ds
 | .ld u6=>H p=some (.lst (fp.map V.ref))/\eY K G H fp u6
 | .dt cI=>∃ks bs,H p=some (.dT ks bs)/\jk G ks bs.1/\ks.map (·.1)=cI.map (·.1)/\ks.map (·.2)=fp.map V.ref/\b9 K G H fp (cI.map (·.2))
 | .tp ds=>fp=[]/\∃xs,H p=some (.tup xs)/\bB K G xs ds
 | .ob cn fs=>∃C dx gs,H p=some (.ins C dx gs)/\ClsAt K cn C/\(∀p∈fs,cO K C p.1)/\gs.map (·.1)=fs.map (·.1)/\gs.map (·.2)=fp.map V.ref/\b9 K G H fp (fs.map (·.2))
 | .dq cI=>fp=[]/\∃ks bs,H p=some (.dT ks bs)/\jk G ks bs.1/\fV K G ks cI
 | .li a cg=>p=a/\H p=some (.lst (fp.map V.ref))/\b9 K G H fp cg
theorem gJ.here{K:PySem.W.Frag}{G H:Hp}{p:Addr}{fp:List Addr}{o:OV}(h:gJ K G H p fp o):∀q∈p::fp,H q≠none:=by
 intro q hq;cases o with
 | ll cg=>
  rcases ah.mp hq with rfl | hq
  ·rw[h.1];exact nofun
  ·exact h.2.here q hq
 | dc cI=>
  obtain⟨rfl,ks,ep,h1,_⟩:=h;simp only[aO] at hq;subst hq;rw[h1];exact nofun
 | dl cI=>
  obtain⟨ks,ep,h1,_,_,h4⟩:=h;rcases ah.mp hq with rfl | hq
  ·rw[h1];exact nofun
  ·exact h4.here q hq
 | tl d ds=>
  obtain⟨r,v,xs,rfl,h1,_,h2,_⟩:=h;simp only[ah,aK,or_false] at hq;rcases hq with rfl | rfl
  ·rw[h1];exact nofun
  ·rw[h2];exact nofun
 | ld u6=>
  rcases ah.mp hq with rfl | hq
  ·rw[h.1];exact nofun
  ·exact h.2.here q hq
 | dt cI=>
  obtain⟨ks,bs,h1,_,_,_,h4⟩:=h;rcases ah.mp hq with rfl | hq
  ·rw[h1];exact nofun
  ·exact h4.here q hq
 | tp ds=>
  obtain⟨rfl,xs,h1,_⟩:=h;simp only[aO] at hq;subst hq;rw[h1];exact nofun
 | ob cn fs=>
  obtain⟨C,dx,gs,h1,_,_,_,_,h4⟩:=h;rcases ah.mp hq with rfl | hq
  ·rw[h1];exact nofun
  ·exact h4.here q hq
 | dq cI=>
  obtain⟨rfl,ks,bs,h1,_⟩:=h;simp only[aO] at hq;subst hq;rw[h1];exact nofun
 | li a cg=>
  rcases ah.mp hq with rfl | hq
  ·rw[h.2.1];exact nofun
  ·exact h.2.2.here q hq
theorem gJ.mono{K:PySem.W.Frag}{G H G' H':Hp}{p:Addr}{fp:List Addr}{o:OV}(g:bL G G')(hh:∀q∈p::fp,∀u,H q=some u->H' q=some u)(h:gJ K G H p fp o):gJ K G' H' p fp o:=by
 cases o with
 | ll cg=>exact⟨hh p (by simp) _ h.1,h.2.mono g fun q hq xs=>hh q (by simp[hq]) _⟩
 | dc cI=>
  obtain⟨rfl,ks,ep,h1,h2⟩:=h;exact⟨rfl,ks,ep,hh p (by simp) _ h1,fk.mono g _ _ h2⟩
 | dl cI=>
  obtain⟨ks,ep,h1,h2,h3,h4⟩:=h;exact⟨ks,ep,hh p (by simp) _ h1,h2,h3,h4.mono g fun q hq xs=>hh q (by simp[hq]) _⟩
 | tl d ds=>
  obtain⟨r,v,xs,rfl,h1,h2,h3,h4⟩:=h;exact⟨r,v,xs,rfl,hh p (by simp) _ h1,h2.mono g,hh r (by simp) _ h3,h4.mono g⟩
 | li a cg=>exact⟨h.1,hh p (by simp) _ h.2.1,h.2.2.mono g fun q hq xs=>hh q (by simp[hq]) _⟩
 | ld u6=>exact⟨hh p (by simp) _ h.1,h.2.mono g fun q hq=>hh q (by simp[hq])⟩
 | dt cI=>
  obtain⟨ks,bs,h1,hk,h2,h3,h4⟩:=h;exact⟨ks,bs,hh p (by simp) _ h1,hk.mono g,h2,h3,h4.mono g fun q hq xs=>hh q (by simp[hq]) _⟩
 | tp ds=>
  obtain⟨rfl,xs,h1,h2⟩:=h;exact⟨rfl,xs,hh p (by simp) _ h1,h2.mono g⟩
 | ob cn fs=>
  obtain⟨C,dx,gs,h1,hc,hn,h2,h3,h4⟩:=h;exact⟨C,dx,gs,hh p (by simp) _ h1,hc,hn,h2,h3,h4.mono g fun q hq xs=>hh q (by simp[hq]) _⟩
 | dq cI=>
  obtain⟨rfl,ks,bs,h1,hk,h2⟩:=h;exact⟨rfl,ks,bs,hh p (by simp) _ h1,hk.mono g,fV.mono g _ _ h2⟩
theorem fk.eG{K:PySem.W.Frag}{G:Hp}:∀{ks:List (Key×V)} {cI:List (Key×List D)} {fp:List Addr},ks.map (·.1)=cI.map (·.1)->ks.map (·.2)=fp.map V.ref->bB K G (fp.map V.ref) ((cI.map (·.2)).map D.lst)->fk K G ks (cI.map fun p=>(p.1,.lst p.2))
 | [],[],_,_,_,_=>by simp only[List.map_nil,fk]
 | a::ks,b::cI,fp,h1,h2,h3=>by
  simp only[au,List.cons.injEq] at h1;cases fp with
  | nil=>simp at h2
  | cons q fp=>
   simp only[au,List.cons.injEq] at h2;simp only[au,bB] at h3;simp only[au,fk];exact⟨⟨h1.1,by rw[h2.1];exact h3.1⟩,fk.eG h1.2 h2.2 h3.2⟩
 | [],_::_,_,h,_,_=>by simp at h
 | _::_,[],_,h,_,_=>by simp at h
theorem fV.eG{K:PySem.W.Frag}{G:Hp}:∀{ks:List (List Key×V)} {cI:List (List Key×List D)} {fp:List Addr},ks.map (·.1)=cI.map (·.1)->ks.map (·.2)=fp.map V.ref->bB K G (fp.map V.ref) ((cI.map (·.2)).map D.lst)->fV K G ks (cI.map fun p=>(p.1,.lst p.2))
 | [],[],_,_,_,_=>by simp only[List.map_nil,fV]
 | a::ks,b::cI,fp,h1,h2,h3=>by
  simp only[au,List.cons.injEq] at h1;cases fp with
  | nil=>simp at h2
  | cons q fp=>
   simp only[au,List.cons.injEq] at h2;simp only[au,bB] at h3;simp only[au,fV];exact⟨⟨h1.1,by rw[h2.1];exact h3.1⟩,fV.eG h1.2 h2.2 h3.2⟩
 | [],_::_,_,h,_,_=>by simp at h
 | _::_,[],_,h,_,_=>by simp at h
theorem cE.eG{K:PySem.W.Frag}{G:Hp}:∀{ks:List (Str×V)} {cI:List (Str×List D)} {fp:List Addr},ks.map (·.1)=cI.map (·.1)->ks.map (·.2)=fp.map V.ref->bB K G (fp.map V.ref) ((cI.map (·.2)).map D.lst)->cE K G ks (cI.map fun p=>(p.1,.lst p.2))
 | [],[],_,_,_,_=>by simp only[List.map_nil,cE]
 | a::ks,b::cI,fp,h1,h2,h3=>by
  simp only[au,List.cons.injEq] at h1;cases fp with
  | nil=>simp at h2
  | cons q fp=>
   simp only[au,List.cons.injEq] at h2;simp only[au,bB] at h3;simp only[au,cE];exact⟨⟨h1.1,by rw[h2.1];exact h3.1⟩,cE.eG h1.2 h2.2 h3.2⟩
 | [],_::_,_,h,_,_=>by simp at h
 | _::_,[],_,h,_,_=>by simp at h
noncomputable def nV(G H:Hp)(l:List Addr):Hp:=fun a=>if a∈l then H a else G a
theorem pA{G H:Hp}{l:List Addr}{a:Addr}(h:a∈l):nV G H l a=H a:=if_pos h
theorem pF{G H:Hp}{l:List Addr}{a:Addr}(h:a∉l):nV G H l a=G a:=if_neg h
theorem x9{G H:Hp}{l:List Addr}(h:∀q∈l,G q=none):bL G (nV G H l):=fun b u e=>by
 rw[pF (fun z=>by rw[h b z] at e;cases e)];exact e
theorem gJ.freeze{K:PySem.W.Frag}{G H:Hp}{p:Addr}{fp:List Addr}{o:OV}(h:gJ K G H p fp o)(hn:∀q∈p::fp,G q=none):Rep K (nV G H (p::fp)) (.ref p) o.val:=by
 have hs:=x9 (H:=H) hn;have hp:nV G H (p::fp) p=H p:=pA (by simp);cases o with
 | ll cg=>
  simp only[OV.val,Rep];exact⟨p,_,rfl,j6.of (by rw[hp];exact h.1),h.2.kU hs fun q hq xs e=>by rw[pA (by simp[hq])];exact e⟩
 | dc cI=>
  obtain⟨rfl,ks,ep,h1,h2⟩:=h;simp only[OV.val,Rep];exact⟨p,ks,ep,rfl,by rw[hp];exact h1,fk.mono hs _ _ h2⟩
 | dl cI=>
  obtain⟨ks,ep,h1,h2,h3,h4⟩:=h;simp only[OV.val,Rep];exact⟨p,ks,ep,rfl,by rw[hp];exact h1,fk.eG h2 h3 (h4.kU hs fun q hq xs e=>by rw[pA (by simp[hq])];exact e)⟩
 | tl d ds=>
  obtain⟨r,v,xs,rfl,h1,h2,h3,h4⟩:=h;simp only[OV.val,Rep];refine⟨p,_,rfl,(by rw[hp];exact h1),bB.cons (h2.mono hs) (bB.cons ?_ bB.nil)⟩;simp only[Rep];exact⟨r,xs,rfl,j6.of (by rw[pA (by simp)];exact h3),h4.mono hs⟩
 | dt cI=>
  obtain⟨ks,bs,h1,hk,h2,h3,h4⟩:=h;simp only[OV.val,Rep];exact⟨p,ks,bs,rfl,by rw[hp];exact h1,hk.mono hs,fV.eG h2 h3 (h4.kU hs fun q hq xs e=>by rw[pA (by simp[hq])];exact e)⟩
 | tp ds=>
  obtain⟨rfl,xs,h1,h2⟩:=h;simp only[OV.val,Rep];exact⟨p,xs,rfl,(by rw[hp];exact h1),h2.mono hs⟩
 | ob cn fs=>
  obtain⟨C,dx,gs,h1,hc,hn,h2,h3,h4⟩:=h;simp only[OV.val,Rep];refine⟨p,C,dx,gs,rfl,by rw[hp];exact h1,hc,fun u hu=>?_,cE.eG h2 h3 (h4.kU hs fun q hq xs e=>by rw[pA (by simp[hq])];exact e)⟩;obtain⟨v,hv,rfl⟩:=aN.mp hu;exact hn v hv
 | li a cg=>
  simp only[OV.val,Rep];exact⟨p,_,rfl,j6.of (by rw[hp];exact h.2.1),h.2.2.kU hs fun q hq xs e=>by rw[pA (by simp[hq])];exact e⟩
 | ld u6=>
  simp only[OV.val,Rep];exact⟨p,_,rfl,j6.of (by rw[hp];exact h.1),h.2.kU hs fun q hq u e=>by rw[pA (by simp[hq])];exact e⟩
 | dq cI=>
  obtain⟨rfl,ks,bs,h1,hk,h2⟩:=h;simp only[OV.val,Rep];exact⟨p,ks,bs,rfl,by rw[hp];exact h1,hk.mono hs,fV.mono hs _ _ h2⟩
noncomputable abbrev Ev:=List Sl
noncomputable def gt:Ev->Nat->Sl
 | [],_=>.un
 | a::_,0=>a
 | _::r,n+1=>gt r n
theorem rC{ρ:Ev}{i j:Nat}{s:Sl}:gt (ρ.set i s) j=if i=j/\j<ρ.length then s else gt ρ j:=by
 induction ρ generalizing i j with
 | nil=>simp[gt]
 | cons a r ih=>
  cases i with
  | zero=>
   cases j with
   | zero=>simp[gt]
   | succ j=>simp[gt]
  | succ i=>
   cases j with
   | zero=>simp[gt]
   | succ j=>simp[gt,ih]
def de(K:PySem.W.Frag)(G' H' H:Hp)(v:V):R->Prop
 | .fz d=>Rep K G' v d
 | .ow ds=>∃p xs,v=.ref p/\H p=none/\G' p=none/\H' p=some (.lst xs)/\bB K G' xs ds
 | .ov o=>∃p fp,v=.ref p/\(p::fp).Nodup/\gJ K G' H' p fp o/\∀q∈p::fp,H q=none/\G' q=none
structure cF (K:PySem.W.Frag) (G0 H0:Hp) (ρ:Ev) (σ:St) (G H:Hp):Prop where
 e:Ext G0 H0 G H
 len:σ.length=ρ.length
 fz:∀i d,gt ρ i=.fz d->∃v,σ[i]?=some (some v)/\Rep K G v d
 ow:∀i ds,gt ρ i=.ow ds->∃p xs,σ[i]?=some (some (.ref p))/\H p=some (.lst xs)/\G p=none/\H0 p=none/\bB K G xs ds
 dj:∀i j ds es,i≠j->gt ρ i=.ow ds->gt ρ j=.ow es->σ[i]?≠σ[j]?
 on:∃own:Addr->Option Nat,(∀i ds p,gt ρ i=.ow ds->σ[i]?=some (some (.ref p))->own p=some i)/\∀i o,gt ρ i=.ov o->∃p fp,σ[i]?=some (some (.ref p))/\(p::fp).Nodup/\gJ K G H p fp o/\∀q∈p::fp,G q=none/\H0 q=none/\own q=some i
section
variable {K:PySem.W.Frag} {G0 H0 G H G' H' G2 H2:Hp} {ρ:Ev} {σ:St} {v:V}
theorem cF.ext(E:cF K G0 H0 ρ σ G H)(x:Ext G H G' H'):cF K G0 H0 ρ σ G' H' where
 e:=E.e.trans x
 len:=E.len
 fz:=fun i d h=>let⟨v,h1,h2⟩:=E.fz i d h;⟨v,h1,h2.mono x.g⟩
 ow:=fun i ds h=>let⟨p,xs,h1,h2,h3,h4,h5⟩:=E.ow i ds h;⟨p,xs,h1,x.h _ _ h2,x.n p h3 (by rw[h2];exact nofun),h4,h5.mono x.g⟩
 dj:=E.dj
 on:=by
  obtain⟨own,h1,h2⟩:=E.on;refine⟨own,h1,fun i o h=>?_⟩;obtain⟨p,fp,b1,b2,b3,b4⟩:=h2 i o h;exact⟨p,fp,b1,b2,b3.mono x.g fun q _ u e=>x.h q u e,fun q hq=>⟨x.n q (b4 q hq).1 (b3.here q hq),(b4 q hq).2⟩⟩
theorem de.freeze{r:R}(x:Ext G H G' H')(h:de K G' H' H v r):∃G2,Ext G H G2 H'/\Rep K G2 v r.val/\bL G' G2:=by
 cases r with
 | fz d=>exact⟨G',x,h,bL.refl _⟩
 | ow ds=>
  obtain⟨p,xs,h1,h2,h3,h4,h5⟩:=h;refine⟨upd G' p (.lst xs),⟨x.g.trans (sZ h3),x.h,fun b o e=>?_,fun q y4 kq=>?_⟩,?_,sZ h3⟩
  ·by_cases hb:b=p
   ·subst hb;rw[gB] at e;rw[h4];exact e
   ·rw[cN hb] at e;exact x.s b o e
  ·rw[cN (fun z=>kq (by rw[z];exact h2))];exact x.n q y4 kq
  ·show Rep K (upd G' p (.lst xs)) v (.lst ds);simp only[Rep];exact⟨p,xs,h1,j6.of gB,h5.mono (sZ h3)⟩
 | ov o=>
  obtain⟨p,fp,rfl,h1,h2,h3⟩:=h;have hn:∀q∈p::fp,G' q=none:=fun q hq=>(h3 q hq).2
  refine⟨nV G' H' (p::fp),⟨x.g.trans (x9 hn),x.h,fun b u e=>?_,fun q y4 kq=>?_⟩,h2.freeze hn,x9 hn⟩
  ·by_cases hb:b∈p::fp
   ·rw[pA hb] at e;exact e
   ·rw[pF hb] at e;exact x.s b u e
  ·rw[pF (fun z=>kq (h3 q z).1)];exact x.n q y4 kq
theorem de.ext{r:R}{H1:Hp}(x:Ext G' H' G2 H2)(h:de K G' H' H1 v r):de K G2 H2 H1 v r:=by
 cases r with
 | fz d=>exact Rep.mono x.g v d h
 | ow ds=>
  obtain⟨p,xs,h1,h2,h3,h4,h5⟩:=h;exact⟨p,xs,h1,h2,x.n p h3 (by rw[h4];exact nofun),x.h _ _ h4,h5.mono x.g⟩
 | ov o=>
  obtain⟨p,fp,rfl,h1,h2,h3⟩:=h;exact⟨p,fp,rfl,h1,h2.mono x.g fun q _ u e=>x.h q u e,fun q hq=>⟨(h3 q hq).1,x.n q (h3 q hq).2 (h2.here q hq)⟩⟩
theorem de.ef{r:R}{H1 H3:Hp}(s:bL H3 H1)(h:de K G' H' H1 v r):de K G' H' H3 v r:=by
 cases r with
 | fz d=>exact h
 | ow ds=>
  obtain⟨p,xs,h1,h2,h3,h4,h5⟩:=h;exact⟨p,xs,h1,s.free h2,h3,h4,h5⟩
 | ov o=>
  obtain⟨p,fp,rfl,h1,h2,h3⟩:=h;exact⟨p,fp,rfl,h1,h2,fun q hq=>⟨s.free (h3 q hq).1,(h3 q hq).2⟩⟩
end
noncomputable abbrev TD:=Ev->(R->Prop)->Prop
noncomputable abbrev iP:=Ev->(Bool->Prop)->Prop
noncomputable abbrev iI:=Ev->(List D->Prop)->Prop
structure DE where
 nx:Ev->Prop
 rt:R->Prop
 bk:Ev->Prop:=fun _=>False
 ct:Ev->Prop:=fun _=>False
noncomputable abbrev TX:=DE->Ev->Prop
def PD(X:Cx)(e:Expr)(t:TD):Prop:=∃tt,PE X e tt/\∀(ρ:Ev) (σ:St) (G0 H0 G H:Hp) (Q:R->Prop) (P:VK),cF X.K G0 H0 ρ σ G H->t ρ Q->
 (∀v H' r G',Ext G H G' H'->de X.K G' H' H v r->Q r->P v H')->tt σ H P
def PB(X:Cx)(e:Expr)(t:iP):Prop:=∃tt,PT X e tt/\∀(ρ:Ev) (σ:St) (G0 H0 G H:Hp) (Q:Bool->Prop) (P:Bool->Hp->Prop),cF X.K G0 H0 ρ σ G H->t ρ Q->
 (∀b H' G',Ext G H G' H'->Q b->P b H')->tt σ H P
def lb(X:Cx)(es:List Expr)(t:iI):Prop:=∃tt,PA X es tt/\∀(ρ:Ev) (σ:St) (G0 H0 G H:Hp) (Q:List D->Prop) (P:List V->Hp->Prop),cF X.K G0 H0 ρ σ G H->t ρ Q->
 (∀vs H' ds G',Ext G H G' H'->bB X.K G' vs ds->Q ds->P vs H')->tt σ H P
structure Goes (K:PySem.W.Frag) (G0 H0 G:Hp) (D:DE) (E:Ends):Prop where
 nx:∀ρ σ G' H',bL G G'->cF K G0 H0 ρ σ G' H'->D.nx ρ->E.nx σ H'
 rt:∀v H' r G',Ext G0 H0 G' H'->de K G' H' H0 v r->D.rt r->E.rt v H'
 bk:∀ρ σ G' H',bL G G'->cF K G0 H0 ρ σ G' H'->D.bk ρ->E.bk σ H'
 ct:∀ρ σ G' H',bL G G'->cF K G0 H0 ρ σ G' H'->D.ct ρ->E.ct σ H'
theorem Goes.shift{K:PySem.W.Frag}{G0 H0 G G':Hp}{D:DE}{E:Ends}(g:Goes K G0 H0 G D E)(s:bL G G'):Goes K G0 H0 G' D E:=
 ⟨fun ρ σ G2 H2 s2=>g.nx ρ σ G2 H2 (s.trans s2),g.rt,fun ρ σ G2 H2 s2=>g.bk ρ σ G2 H2 (s.trans s2),fun ρ σ G2 H2 s2=>g.ct ρ σ G2 H2 (s.trans s2)⟩
def PX(X:Cx)(st:Stmt)(t:TX):Prop:=∃tt,PS X st tt/\∀(ρ:Ev) (σ:St) (G0 H0 G H:Hp) (D:DE) (E:Ends),cF X.K G0 H0 ρ σ G H->t D ρ->Goes X.K G0 H0 G D E->tt E σ H
def md(X:Cx)(st:List Stmt)(t:TX):Prop:=∃tt,la X st tt/\∀(ρ:Ev) (σ:St) (G0 H0 G H:Hp) (D:DE) (E:Ends),cF X.K G0 H0 ρ σ G H->t D ρ->Goes X.K G0 H0 G D E->tt E σ H
end L2
namespace L2
open PySem PySem.Spec PyProof.Rows
section
variable {X:Cx} {pos:Pos} {a b c:Expr} {ta tb tc:TD}
theorem fj{K:PySem.W.Frag}{G' H' H:Hp}{v:V}{d:D}(h:Rep K G' v d):de K G' H' H v (.fz d):=h
def bz(i:Nat):TD:=fun ρ Q=>match gt ρ i with
 | .fz d=>Q (.fz d)
 | _=>False
theorem bA(i:Nat){x:Str}(hN:X.N[i]?=some x:=by rfl)(hv:l8 X.env.scope x:=by first | exact Or.inl rfl | exact Or.inr (Or.inl rfl) | exact Or.inr (Or.inr rfl))(hd:(x==("__debug__":Str))=false:=by decide)
  (iO:(x==("__classdict__":Str))=false:=by decide):PD X (.Name x pos) (bz i):=by
 refine⟨_,oR hN hv hd iO,fun ρ σ G0 H0 G H Q P E h k=>?_⟩;unfold bz at h;split at h
 ·rename_i d e;obtain⟨v,h1,h2⟩:=E.fz i d e;exact⟨v,h1,k v H (.fz d) G (.refl E.e.s) h2 h⟩
 ·exact h.elim
def dC(d:D):TD:=fun _ Q=>Q (.fz d)
theorem xM{e:Expr}{v:V}{d:D}(h:PE X e (tC v))(r:∀K G,Rep K G v d):PD X e (dC d):=
 ⟨_,h,fun ρ σ G0 H0 G H Q P E h k=>k v H (.fz d) G (.refl E.e.s) (r _ _) h⟩
theorem je(K:PySem.W.Frag)(G:Hp)(i:Int):Rep K G (.int i) (.int i):=by simp only[Rep]
theorem jy(K:PySem.W.Frag)(G:Hp)(i:Bool):Rep K G (.bl i) (.bl i):=by simp only[Rep]
theorem vG(K:PySem.W.Frag)(G:Hp)(i:Str):Rep K G (.str i) (.str i):=by simp only[Rep]
theorem Ao(K:PySem.W.Frag)(G:Hp):Rep K G .non .non:=by simp only[Rep]
theorem bJ{i j}:PD X (.Constant (.int i) j pos) (dC (.int i)):=xM ML fun K G=>je K G i
theorem sS{i j}:PD X (.Constant (.bool i) j pos) (dC (.bl i)):=xM Mh fun K G=>jy K G i
theorem fN{i j}:PD X (.Constant (.str i) j pos) (dC (.str i)):=xM Gz fun K G=>vG K G i
theorem nX{j}:PD X (.Constant .none j pos) (dC .non):=xM MK fun K G=>Ao K G
theorem O5{x:Str}{i:Int}{t:Tok}(hm:X.mg x=some (.int i t))(hg:Gl X x:=by rfl)(hd:(x==("__debug__":Str))=false:=by decide):PD X (.Name x pos) (dC (.int i)):=xM (CF hg hm (v:=.int i) ⟨t,rfl⟩ hd) fun K G=>je K G i
noncomputable abbrev O2:=D->D->(R->Prop)->Prop
def jP(X:Cx)(f:Value->Value->Sem Value)(o:O2):Prop:=∃r:R2,gh X f r/\∀(G H:Hp) (x y:V) (d e:D) (Q:R->Prop) (P:VK),bL G H->Rep X.K G x d->Rep X.K G y e->o d e Q->
 (∀v H' r' G',Ext G H G' H'->de X.K G' H' H v r'->Q r'->P v H')->r x y H P
def bE(o:O2)(ta tb:TD):TD:=fun ρ Q=>ta ρ fun ra=>tb ρ fun rb=>o ra.val rb.val Q
theorem Ad{r:R2}{o:O2}{yB yA:TE}
  (hr:∀(G H:Hp) (x y:V) (d e:D) (Q:R->Prop) (P:VK),bL G H->Rep X.K G x d->Rep X.K G y e->o d e Q->(∀v H' r' G',Ext G H G' H'->de X.K G' H' H v r'->Q r'->P v H')->r x y H P)
  (ha:∀(ρ:Ev) (σ:St) (G0 H0 G H:Hp) (Q:R->Prop) (P:VK),cF X.K G0 H0 ρ σ G H->ta ρ Q->(∀v H' r G',Ext G H G' H'->de X.K G' H' H v r->Q r->P v H')->yB σ H P)
  (hb:∀(ρ:Ev) (σ:St) (G0 H0 G H:Hp) (Q:R->Prop) (P:VK),cF X.K G0 H0 ρ σ G H->tb ρ Q->(∀v H' r G',Ext G H G' H'->de X.K G' H' H v r->Q r->P v H')->yA σ H P)
  (ρ:Ev) (σ:St) (G0 H0 G H:Hp) (Q:R->Prop) (P:VK) (E:cF X.K G0 H0 ρ σ G H) (h:bE o ta tb ρ Q) (k:∀v H' r G',Ext G H G' H'->de X.K G' H' H v r->Q r->P v H'):yF r yB yA σ H P:=by
 refine ha ρ σ G0 H0 G H _ _ E h fun v H1 ra G1 x1 r1 h1=>?_
 obtain⟨FL,tu,q1,_⟩:=r1.freeze x1;refine hb ρ σ G0 H0 FL H1 _ _ (E.ext tu) h1 fun u H2 rb G2 x2 r2 h2=>?_
 obtain⟨BE,tm,q2,_⟩:=r2.freeze x2;refine hr BE H2 v u _ _ Q P tm.s (q1.mono tm.g) q2 h2 fun v' H' r' G' x3 r3 h3=>?_
 have x4:=(tu.trans tm).trans x3;exact k v' H' r' G' x4 (r3.ef (tu.trans tm).h) h3
theorem bS{op:Operator}{o:O2}(ho:jP X (binaryOp op) o)(ha:PD X a ta)(hb:PD X b tb):PD X (.BinOp a op b pos) (bE o ta tb):=by
 obtain⟨r,hr,oq⟩:=ho;obtain⟨yB,pa,qa⟩:=ha;obtain⟨yA,pb,qb⟩:=hb;exact⟨_,L9 hr pa pb,Ad oq qa qb⟩
theorem rB{op:CmpOp}{o:O2}(ho:jP X (compareOp op) o)(ha:PD X a ta)(hb:PD X b tb)(hm:behindInMarks op b=false:=by first | exact Gv _ | rfl):PD X (.Compare a [op] [b] pos) (bE o ta tb):=by
 obtain⟨r,hr,oq⟩:=ho;obtain⟨yB,pa,qa⟩:=ha;obtain⟨yA,pb,qb⟩:=hb;exact⟨_,Oh hr pa pb hm,Ad oq qa qb⟩
def cL(t:TD):iP:=fun ρ Q=>t ρ fun r=>match r with
 | .fz (.bl k)=>Q k
 | _=>False
theorem dQ{op:CmpOp}{o:O2}(ho:jP X (compareOp op) o)(ha:PD X a ta)(hb:PD X b tb)(hm:behindInMarks op b=false:=by first | exact Gv _ | rfl):PB X (.Compare a [op] [b] pos) (cL (bE o ta tb)):=by
 obtain⟨r,hr,oq⟩:=ho;obtain⟨yB,pa,qa⟩:=ha;obtain⟨yA,pb,qb⟩:=hb;refine⟨_,ND hr pa pb hm,fun ρ σ G0 H0 G H Q P E h k=>?_⟩;refine Ad oq qa qb ρ σ G0 H0 G H _ _ E h fun v H' r G' x1 r1 h1=>?_
 split at h1
 ·rename_i kk;have e:v=.bl kk:=by simpa only[de,Rep] using r1
  exact⟨kk,e,k kk H' G' x1 h1⟩
 ·exact h1.elim
theorem pD{e:Expr}{t:TD}(h:PD X e t)(he:∀whole,isTrue e X.env whole=(do let v <-whole;standAt e.pos;holding [v] (truthy v)):=by intro _;rfl):PB X e (cL t):=by
 obtain⟨tt,p,q⟩:=h;refine⟨_,MJ p he,fun ρ σ G0 H0 G H Q P E h k=>?_⟩;refine q ρ σ G0 H0 G H _ _ E h fun v H' r G' x1 r1 h1=>?_
 split at h1
 ·rename_i kk;have e:v=.bl kk:=by simpa only[de,Rep] using r1
  exact⟨kk,e,k kk H' G' x1 h1⟩
 ·exact h1.elim
def dA:O2:=fun d e Q=>match d,e with
 | .int i,.int j=>Q (.fz (.int (i+j)))
 | .str x,.str y=>x.length+y.length<=sizeLine/\Q (.fz (.str (x++y)))
 | .lst xs,.lst ys=>xs.length+ys.length<=sizeLine/\Q (.ow (xs++ys))
 | _,_=>False
def LW(K:PySem.W.Frag):R2:=fun x y H Q=>∃l b xs zs,x=.ref l/\y=.ref b/\j6 K H l xs/\j6 K H b zs/\xs.length+zs.length<=sizeLine/\∀p,H p=none->Q (.ref p) (upd H p (.lst (xs++zs)))
theorem Nq:gh X (binaryOp .Add) (LW X.K):=by
 intro pins s σ H x y v u Q I rx ry h;obtain⟨l,b,xs,zs,rfl,rfl,hH,hB,hz,q⟩:=h;cases rx;cases ry;obtain⟨z,its,n,r,e⟩:=I.gH hH;obtain⟨z2,yW,n2,r2,e2⟩:=I.gH hB;have hl:=r.length;have EV:=r2.length;refine PySem.P.add_list e e2 ?_ (by rw[ar,ar];omega);have ea:its.toArray++yW.toArray=(its++yW).toArray:=by simp
 rw[ea];exact⟨.ref _,_,I.yV (t':=s.toks) (r.append r2) (by rw[aj];omega),rfl,q _ I.fresh⟩
theorem tf{G H:Hp}{xs:List V}{ds:List D}{Q:R->Prop}{P:VK}(s:bL G H)(r:bB X.K G xs ds)(q:Q (.ow ds))
  (k:∀v H' r' G',Ext G H G' H'->de X.K G' H' H v r'->Q r'->P v H'):∀p,H p=none->P (.ref p) (upd H p (.lst xs)):=fun p hp=>
 k _ _ (.ow ds) G (.own s hp) ⟨p,xs,rfl,hp,s.free hp,gB,r⟩ q
theorem dH:jP X (binaryOp .Add) dA:=by
 refine⟨_,uG.or (mU.or Nq),fun G H x y d e Q P s rx ry h k=>?_⟩;unfold dA at h;split at h
 ·simp only[Rep] at rx ry;exact .inl ⟨_,_,rx,ry,k _ _ _ G (.refl s) (fj (je _ _ _)) h⟩
 ·simp only[Rep] at rx ry;exact .inr (.inl ⟨_,_,rx,ry,h.1,k _ _ _ G (.refl s) (fj (vG _ _ _)) h.2⟩)
 ·simp only[Rep] at rx ry;obtain⟨a,xs,rfl,hx,JF⟩:=rx;obtain⟨b,ys,rfl,hy,qJ⟩:=ry;refine .inr (.inr ⟨_,_,_,_,rfl,rfl,s.gH hx,s.gH hy,by rw[JF.length,qJ.length];exact h.1,tf s (JF.append qJ) h.2 k⟩)
 ·exact h.elim
def oI(C:Int->Int->Prop)(g:Int->Int->D):O2:=fun d e Q=>match d,e with
 | .int i,.int j=>C i j/\Q (.fz (g i j))
 | _,_=>False
def gM(g:Int->Int->D):O2:=fun d e Q=>match d,e with
 | .int i,.int j=>Q (.fz (g i j))
 | _,_=>False
theorem z7{f:Value->Value->Sem Value}{C:Int->Int->Prop}{g:Int->Int->V}{g':Int->Int->D}(h:gh X f (rI C g))(hg:∀K G i j,Rep K G (g i j) (g' i j)):jP X f (oI C g'):=by
 refine⟨_,h,fun G H x y d e Q P s rx ry h k=>?_⟩;unfold oI at h;split at h
 ·simp only[Rep] at rx ry;exact⟨_,_,rx,ry,h.1,k _ _ _ G (.refl s) (fj (hg _ _ _ _)) h.2⟩
 ·exact h.elim
theorem xw{f:Value->Value->Sem Value}{g:Int->Int->V}{g':Int->Int->D}(h:gh X f (mT g))(hg:∀K G i j,Rep K G (g i j) (g' i j)):jP X f (gM g'):=by
 refine⟨_,h,fun G H x y d e Q P s rx ry h k=>?_⟩;unfold gM at h;split at h
 ·simp only[Rep] at rx ry;exact⟨_,_,rx,ry,k _ _ _ G (.refl s) (fj (hg _ _ _ _)) h⟩
 ·exact h.elim
theorem Gj:jP X (binaryOp .Sub) (gM fun i j=>.int (i-j)):=xw MA fun K G i j=>je K G _
theorem rm:jP X (binaryOp .Mult) (oI iK fun i j=>.int (i*j)):=z7 Mz fun K G i j=>je K G _
theorem fw:jP X (binaryOp .FloorDiv) (oI fc fun i j=>.int (i/j)):=z7 Oj fun K G i j=>je K G _
theorem dU:jP X (binaryOp .Mod) (oI (fun _ j=>0<j) fun i j=>.int (i%j)):=z7 My fun K G i j=>je K G _
theorem z0:jP X (binaryOp .Pow) (oI qw fun i j=>.int (i ^ j.toNat)):=z7 Mx fun K G i j=>je K G _
theorem zP:jP X (compareOp .Lt) (gM fun i j=>.bl (decide (i<j))):=xw zX fun K G i j=>jy K G _
theorem K8:jP X (compareOp .LtE) (gM fun i j=>.bl (decide (i<=j))):=xw zW fun K G i j=>jy K G _
theorem xk:jP X (compareOp .Gt) (gM fun i j=>.bl (decide (j<i))):=xw L7 fun K G i j=>jy K G _
theorem K7:jP X (compareOp .GtE) (gM fun i j=>.bl (decide (j<=i))):=xw L6 fun K G i j=>jy K G _
end
end L2
namespace L2
open PySem PySem.Spec PyProof.Rows PySem.SeqAt
mutual
noncomputable def cW:D->D->Bool
 | .non,.non=>true
 | .bl a,.bl b=>a==b
 | .bl a,.int b=>(if a then 1 else 0)==b
 | .int a,.bl b=>a==(if b then 1 else 0)
 | .int a,.int b=>a==b
 | .str a,.str b=>a==b
 | .tup xs,.tup ys=>lP xs ys
 | .lst xs,.lst ys=>lP xs ys
 | _,_=>false
noncomputable def lP:List D->List D->Bool
 | [],[]=>true
 | x::xs,y::ys=>cW x y&&lP xs ys
 | _,_=>false
end
def dg:Nat->D->Prop
 | _,.non=>True
 | _,.bl _=>True
 | _,.int _=>True
 | _,.str _=>True
 | n+1,.tup ds=>∀d∈ds,dg n d
 | n+1,.lst ds=>∀d∈ds,dg n d
 | _,_=>False
theorem dg.mono:∀{n m:Nat} {d:D},n<=m->dg n d->dg m d
 | n,m,.non,_,_=>by cases m<;>exact trivial
 | n,m,.bl _,_,_=>by cases m<;>exact trivial
 | n,m,.int _,_,_=>by cases m<;>exact trivial
 | n,m,.str _,_,_=>by cases m<;>exact trivial
 | 0,m,.tup ds,_,h=>by cases h
 | 0,m,.lst ds,_,h=>by cases h
 | n+1,0,.tup ds,l,h=>by omega
 | n+1,0,.lst ds,l,h=>by omega
 | n+1,m+1,.tup ds,l,h=>fun d hd=>dg.mono (by omega) (h d hd)
 | n+1,m+1,.lst ds,l,h=>fun d hd=>dg.mono (by omega) (h d hd)
 | 0,m,.obj _ _,_,h=>by cases h
 | n+1,m,.obj _ _,_,h=>by cases h
 | 0,m,.dic _,_,h=>by cases h
 | 0,m,.dit _,_,h=>by cases h
 | 0,m,.exc _ _,_,h=>by cases h
 | 0,m,.idn _ _,_,h=>by cases h
 | n+1,m,.dic _,_,h=>by cases h
 | n+1,m,.dit _,_,h=>by cases h
 | n+1,m,.exc _ _,_,h=>by cases h
 | n+1,m,.idn _ _,_,h=>by cases h
mutual
theorem xK:∀(n:Nat) (d:D),dg n d->cW d d=true
 | n,.non,_=>by simp only[cW]
 | n,.bl _,_=>by simp only[cW,beq_self_eq_true]
 | n,.int _,_=>by simp only[cW,beq_self_eq_true]
 | n,.str _,_=>by simp only[cW,beq_self_eq_true]
 | 0,.tup ds,h=>by cases h
 | 0,.lst ds,h=>by cases h
 | n+1,.tup ds,h=>by simp only[cW];exact C5 n ds h
 | n+1,.lst ds,h=>by simp only[cW];exact C5 n ds h
 | 0,.obj _ _,h=>by cases h
 | n+1,.obj _ _,h=>by cases h
 | 0,.dic _,h=>by cases h
 | 0,.dit _,h=>by cases h
 | 0,.exc _ _,h=>by cases h
 | 0,.idn _ _,h=>by cases h
 | n+1,.dic _,h=>by cases h
 | n+1,.dit _,h=>by cases h
 | n+1,.exc _ _,h=>by cases h
 | n+1,.idn _ _,h=>by cases h
theorem C5:∀(n:Nat) (ds:List D),(∀d∈ds,dg n d)->lP ds ds=true
 | n,[],_=>by simp only[lP]
 | n,d::ds,h=>by simp only[lP,xK n d (h d (by simp)),C5 n ds (fun e he=>h e (by simp[he])),Bool.and_self]
end
theorem xT:∀{xs ys:List D},xs.length≠ys.length->lP xs ys=false
 | [],[],h=>absurd rfl h
 | x::xs,y::ys,h=>by
  rw[lP,xT (xs:=xs) (ys:=ys) (by simpa using h),Bool.and_false]
 | [],_::_,_=>by simp only[lP]
 | _::_,[],_=>by simp only[lP]
theorem xS:∀(xs ys:List D),xs.length=ys.length->lP xs ys=(List.range xs.length).all fun j=>cW (xs.getD j .non) (ys.getD j .non)
 | [],[],_=>by simp[lP]
 | x::xs,y::ys,h=>by
  rw[lP,xS xs ys (by simpa using h),aB,List.range_succ_eq_map,List.all_cons,List.all_map];congr 1
 | [],_::_,h=>by simp at h
 | _::_,[],h=>by simp at h
theorem CP(xs ys:List D):((List.range (min xs.length ys.length)).all (fun j=>cW (xs.getD j .non) (ys.getD j .non))&&xs.length==ys.length)=lP xs ys:=by
 by_cases h:xs.length=ys.length
 ·rw[xS xs ys h,h];simp
 ·rw[xT h];simp[h]
section
variable {X:Cx} {pins:List (Addr×Obj)} {σ:St} {H:Hp} {s:Shared}
mutual
theorem Av(I:Inv X pins σ H s):∀(n:Nat) (d e:D) (v:V),dg n d->dg n e->Rep X.K H v d->Rep X.K H v e->d=e
 | n,.non,e,v,h,h',r,r'=>by
  cases e<;>simp only[Rep] at r r'<;>subst r<;>first | rfl | (simp at r';done) | (simp only[V.bl.injEq,V.int.injEq,V.str.injEq] at r';rw[r'])
 | n,.bl b,e,v,h,h',r,r'=>by
  cases e<;>simp only[Rep] at r r'<;>subst r<;>first | rfl | (simp at r';done) | (simp only[V.bl.injEq,V.int.injEq,V.str.injEq] at r';rw[r'])
 | n,.int b,e,v,h,h',r,r'=>by
  cases e<;>simp only[Rep] at r r'<;>subst r<;>first | rfl | (simp at r';done) | (simp only[V.bl.injEq,V.int.injEq,V.str.injEq] at r';rw[r'])
 | n,.str b,e,v,h,h',r,r'=>by
  cases e<;>simp only[Rep] at r r'<;>subst r<;>first | rfl | (simp at r';done) | (simp only[V.bl.injEq,V.int.injEq,V.str.injEq] at r';rw[r'])
 | 0,.tup ds,e,v,h,h',r,r'=>by cases h
 | 0,.lst ds,e,v,h,h',r,r'=>by cases h
 | n+1,.tup ds,e,v,h,h',r,r'=>by
  simp only[Rep] at r;obtain⟨a,xs,rfl,q,rs⟩:=r;cases e<;>simp only[Rep] at r'
  case tup es=>
   obtain⟨b,ys,e1,q',iX⟩:=r';cases e1;rw[I.kL (fH.of q') (fH.of q)] at iX;rw[CZ I n ds es xs h h' rs iX]
  case lst es=>
   obtain⟨b,ys,e1,q',iX⟩:=r';cases e1;obtain⟨its,_,ht,_⟩:=I.tuple (fH.of q);obtain⟨its',_,hl,_⟩:=I.list q'.sq;exact absurd rfl (ne_of_list_tuple hl.isList (show s.heap.IsTuple a its.toArray from ht))
  case obj=>cases h'
  case dic=>cases h'
  case dit=>cases h'
  case exc=>cases h'
  case idn=>cases h'
  all_goals cases r'
 | n+1,.lst ds,e,v,h,h',r,r'=>by
  simp only[Rep] at r;obtain⟨a,xs,rfl,q,rs⟩:=r;cases e<;>simp only[Rep] at r'
  case lst es=>
   obtain⟨b,ys,e1,q',iX⟩:=r';cases e1;rw[I.jH q'.sq q.sq] at iX;rw[CZ I n ds es xs h h' rs iX]
  case tup es=>
   obtain⟨b,ys,e1,q',iX⟩:=r';cases e1;obtain⟨its,_,ht,_⟩:=I.tuple (fH.of q');obtain⟨its',_,hl,_⟩:=I.list q.sq;exact absurd rfl (ne_of_list_tuple hl.isList (show s.heap.IsTuple a its.toArray from ht))
  case obj=>cases h'
  case dic=>cases h'
  case dit=>cases h'
  case exc=>cases h'
  case idn=>cases h'
  all_goals cases r'
 | 0,.obj _ _,_,_,h,_,_,_=>by cases h
 | n+1,.obj _ _,_,_,h,_,_,_=>by cases h
 | 0,.dic _,_,_,h,_,_,_=>by cases h
 | 0,.dit _,_,_,h,_,_,_=>by cases h
 | 0,.exc _ _,_,_,h,_,_,_=>by cases h
 | 0,.idn _ _,_,_,h,_,_,_=>by cases h
 | n+1,.dic _,_,_,h,_,_,_=>by cases h
 | n+1,.dit _,_,_,h,_,_,_=>by cases h
 | n+1,.exc _ _,_,_,h,_,_,_=>by cases h
 | n+1,.idn _ _,_,_,h,_,_,_=>by cases h
theorem CZ(I:Inv X pins σ H s):∀(n:Nat) (ds es:List D) (vs:List V),(∀d∈ds,dg n d)->(∀d∈es,dg n d)->bB X.K H vs ds->bB X.K H vs es->ds=es
 | n,[],[],_,_,_,_,_=>rfl
 | n,d::ds,e::es,v::vs,h,h',r,r'=>by
  simp only[bB] at r r';rw[Av I n d e v (h d (by simp)) (h' e (by simp)) r.1 r'.1,CZ I n ds es vs (fun x hx=>h x (by simp[hx])) (fun x hx=>h' x (by simp[hx])) r.2 r'.2]
 | n,[],_::_,[],_,_,_,r=>by simp only[bB] at r
 | n,[],_::_,_::_,_,_,r,_=>by simp only[bB] at r
 | n,_::_,[],[],_,_,r,_=>by simp only[bB] at r
 | n,_::_,[],_::_,_,_,_,r=>by simp only[bB] at r
 | n,_::_,_::_,[],_,_,r,_=>by simp only[bB] at r
end
theorem nZ{vs:List V}{ds:List D}{us:List Value}{j:Nat}(rv:Vals vs us)(rd:bB X.K H vs ds)(hj:j<us.toArray.size):∃v,RelV v us.toArray[j]/\Rep X.K H v (ds.getD j .non)/\ds.getD j .non∈ds:=by
 have h1:j<us.length:=by simpa using hj
 have h2:j<vs.length:=by rw[rv.length];exact h1
 have h3:j<ds.length:=by rw[<-rd.length];exact h2
 obtain⟨u,hu,ru⟩:=rv.get (ao h2);obtain⟨d,hd,TM⟩:=rd.zA (ao h2);rw[ao h1] at hu;rw[ao h3] at hd;cases hu;cases hd;refine⟨vs[j],?_,?_,?_⟩
 ·simpa using ru
 ·simpa[List.getD,h3] using TM
 ·simp[List.getD,h3]
noncomputable def vt:D->Bool
 | .non=>true
 | .bl _=>true
 | .int _=>true
 | .str _=>true
 | _=>false
theorem Hx{d e:D}{x y:V}(hd:vt d=true)(he:vt e=true)(rx:Rep X.K H x d)(ry:Rep X.K H y e):zV x=true/\zV y=true/\Fz x y=cW d e:=by
 cases d<;>first | cases hd | skip
 all_goals (cases e<;>first | cases he | skip)
 all_goals
  simp only[Rep] at rx ry;subst rx ry;exact⟨rfl,rfl,by simp[Fz,cW]⟩
theorem xv(I:Inv X pins σ H s):∀(n:Nat) (A:Around) (d e:D) (x y:V) (v u:Value),dg n d->dg n e->A.units+n<cLine->Rep X.K H x d->Rep X.K H y e->RelV x v->RelV y u->EqAt A s v u (cW d e):=by
 intro n;induction n with
 | zero=>
  intro A d e x y v u hd he hu rx ry qx qy;have fd:vt d=true:=by cases d<;>first | rfl | cases hd
  have fe:vt e=true:=by cases e<;>first | rfl | cases he
  obtain⟨h1,h2,h3⟩:=Hx fd fe rx ry;rw[<-h3];exact Gr qx qy h1 h2
 | succ n ih=>
  intro A d e x y v u hd he hu rx ry qx qy;have dD:A.units<cLine:=by omega
  have qK:A.in1.units+n<cLine:=by show A.units+1+n<cLine;omega
  by_cases fd:vt d=true
  ·by_cases fe:vt e=true
   ·obtain⟨h1,h2,h3⟩:=Hx fd fe rx ry;rw[<-h3];exact Gr qx qy h1 h2
   ·cases e<;>first | exact absurd rfl fe | skip
    case tup es=>
     simp only[Rep] at ry;obtain⟨b,ys,rfl,q,rs⟩:=ry;cases qy;obtain⟨its,rv,ht,_⟩:=I.tuple (fH.of q);have eh:s.heap.IsTuple b its.toArray:=ht;cases d<;>first | cases fd | skip
     ·simp only[Rep] at rx;subst rx;cases qx;simpa only[cW] using EqAt.none_tuple eh dD
     ·simp only[Rep] at rx;subst rx;cases qx;simpa only[cW] using EqAt.bool_tuple _ eh dD
     ·simp only[Rep] at rx;subst rx;obtain⟨t,rfl⟩:=qx;simpa only[cW] using EqAt.int_tuple _ t eh dD
     ·simp only[Rep] at rx;subst rx;obtain⟨t,rfl⟩:=qx;simpa only[cW] using EqAt.str_tuple _ t eh dD
    case lst es=>
     simp only[Rep] at ry;obtain⟨b,ys,rfl,q,rs⟩:=ry;cases qy;obtain⟨its,rv,ht,_⟩:=I.list q.sq;have eh:=ht.isList;cases d<;>first | cases fd | skip
     ·simp only[Rep] at rx;subst rx;cases qx;simpa only[cW] using EqAt.none_list eh dD
     ·simp only[Rep] at rx;subst rx;cases qx;simpa only[cW] using EqAt.bool_list _ eh dD
     ·simp only[Rep] at rx;subst rx;obtain⟨t,rfl⟩:=qx;simpa only[cW] using EqAt.int_list _ t eh dD
     ·simp only[Rep] at rx;subst rx;obtain⟨t,rfl⟩:=qx;simpa only[cW] using EqAt.str_list _ t eh dD
    case obj=>cases he
    case dic=>cases he
    case dit=>cases he
    case exc=>cases he
    case idn=>cases he
  ·cases d<;>first | exact absurd rfl fd | skip
   case tup ds=>
    have DX:=rx;simp only[Rep] at rx;obtain⟨a,xs,rfl,q,rs⟩:=rx;cases qx;obtain⟨its,rv,ht,_⟩:=I.tuple (fH.of q);have eh:s.heap.IsTuple a its.toArray:=ht;cases e
    case non=>simp only[Rep] at ry;subst ry;cases qy;simpa only[cW] using EqAt.tuple_none eh dD
    case bl=>simp only[Rep] at ry;subst ry;cases qy;simpa only[cW] using EqAt.tuple_bool _ eh dD
    case int=>simp only[Rep] at ry;subst ry;obtain⟨t,rfl⟩:=qy;simpa only[cW] using EqAt.tuple_int _ t eh dD
    case str=>simp only[Rep] at ry;subst ry;obtain⟨t,rfl⟩:=qy;simpa only[cW] using EqAt.tuple_str _ t eh dD
    case lst es=>
     simp only[Rep] at ry;obtain⟨b,ys,rfl,q',iX⟩:=ry;cases qy;obtain⟨its',kT,hl,_⟩:=I.list q'.sq;simpa only[cW] using EqAt.tuple_list eh hl.isList dD
    case tup es=>
     have DW:=ry;simp only[Rep] at ry;obtain⟨b,ys,rfl,q',iX⟩:=ry;cases qy;obtain⟨its',kT,nM,_⟩:=I.tuple (fH.of q');by_cases kP:a=b
     ·subst kP;have e0:=Av I (n+1) _ _ _ hd he DX DW;rw[<-e0,xK (n+1) _ hd];exact EqAt.same _
     ·refine EqAt.of_refs kP ?_;have h:=RcAt.tuples (e:=fun j=>cW (ds.getD j .non) (es.getD j .non)) eh (show s.heap.IsTuple b its'.toArray from nM) dD fun j h1 h2=>by
       obtain⟨v1,a1,b1,c1⟩:=nZ rv rs h1;obtain⟨v2,a2,b2,c2⟩:=nZ kT iX h2;exact ih A.in1 _ _ v1 v2 _ _ (hd _ c1) (he _ c2) qK b1 b2 a1 a2
      have l1:its.toArray.size=ds.length:=by rw[ar,<-rv.length,rs.length]
      have l2:its'.toArray.size=es.length:=by rw[ar,<-kT.length,iX.length]
      rw[l1,l2,CP] at h;simpa only[cW] using h
    case obj=>cases he
    case dic=>cases he
    case dit=>cases he
    case exc=>cases he
    case idn=>cases he
   case lst ds=>
    have DX:=rx;simp only[Rep] at rx;obtain⟨a,xs,rfl,q,rs⟩:=rx;cases qx;obtain⟨its,rv,ht,_⟩:=I.list q.sq;have eh:=ht.isList;cases e
    case non=>simp only[Rep] at ry;subst ry;cases qy;simpa only[cW] using EqAt.list_none eh dD
    case bl=>simp only[Rep] at ry;subst ry;cases qy;simpa only[cW] using EqAt.list_bool _ eh dD
    case int=>simp only[Rep] at ry;subst ry;obtain⟨t,rfl⟩:=qy;simpa only[cW] using EqAt.list_int _ t eh dD
    case str=>simp only[Rep] at ry;subst ry;obtain⟨t,rfl⟩:=qy;simpa only[cW] using EqAt.list_str _ t eh dD
    case tup es=>
     simp only[Rep] at ry;obtain⟨b,ys,rfl,q',iX⟩:=ry;cases qy;obtain⟨its',kT,hl,_⟩:=I.tuple (fH.of q');simpa only[cW] using EqAt.list_tuple eh (show s.heap.IsTuple b its'.toArray from hl) dD
    case lst es=>
     have DW:=ry;simp only[Rep] at ry;obtain⟨b,ys,rfl,q',iX⟩:=ry;cases qy;obtain⟨its',kT,nM,_⟩:=I.list q'.sq;by_cases kP:a=b
     ·subst kP;have e0:=Av I (n+1) _ _ _ hd he DX DW;rw[<-e0,xK (n+1) _ hd];exact EqAt.same _
     ·refine EqAt.of_refs kP ?_;have l1:its.toArray.size=ds.length:=by rw[ar,<-rv.length,rs.length]
      have l2:its'.toArray.size=es.length:=by rw[ar,<-kT.length,iX.length]
      by_cases hl:ds.length=es.length
      ·have h:=RcAt.lists (e:=fun j=>cW (ds.getD j .non) (es.getD j .non)) eh nM.isList (by rw[l1,l2,hl]) dD fun j h1 h2=>by
        obtain⟨v1,a1,b1,c1⟩:=nZ rv rs h1;obtain⟨v2,a2,b2,c2⟩:=nZ kT iX h2;exact ih A.in1 _ _ v1 v2 _ _ (hd _ c1) (he _ c2) qK b1 b2 a1 a2
       rw[l1,<-xS ds es hl] at h;simpa only[cW] using h
      ·have h:=RcAt.lists_lengths (A:=A) eh nM.isList (by rw[l1,l2];simpa using hl) dD;simp only[cW,xT hl];exact h
    case obj=>cases he
    case dic=>cases he
    case dit=>cases he
    case exc=>cases he
    case idn=>cases he
   case obj=>cases hd
   case dic=>cases hd
   case dit=>cases hd
   case exc=>cases hd
   case idn=>cases hd
end
end L2
namespace L2
open PySem PySem.Spec PyProof.Rows PySem.SeqAt
section
variable {X:Cx} {pins:List (Addr×Obj)} {σ:St} {H:Hp} {s:Shared}
theorem o9{y:V}{u:Value}(r:Rep X.K H y .non)(q:RelV y u):u=.none:=by simp only[Rep] at r;subst r;cases q;rfl
theorem pe{y:V}{u:Value}{c:Bool}(r:Rep X.K H y (.bl c))(q:RelV y u):u=.bool c:=by simp only[Rep] at r;subst r;cases q;rfl
theorem pd{y:V}{u:Value}{i:Int}(r:Rep X.K H y (.int i))(q:RelV y u):∃t,u=.int i t:=by simp only[Rep] at r;subst r;exact q
theorem o8{y:V}{u:Value}{x:Str}(r:Rep X.K H y (.str x))(q:RelV y u):∃t,u=.str x t:=by simp only[Rep] at r;subst r;exact q
theorem qO{y:V}{u:Value}{es:List D}(I:Inv X pins σ H s)(r:Rep X.K H y (.tup es))(q:RelV y u):∃b it,u=.ref b/\s.heap.IsTuple b (List.toArray it):=by
 simp only[Rep] at r;obtain⟨b,ys,rfl,h,_⟩:=r;cases q;obtain⟨it,_,ht,_⟩:=I.tuple (fH.of h);exact⟨b,it,rfl,ht⟩
theorem qP{y:V}{u:Value}{es:List D}(I:Inv X pins σ H s)(r:Rep X.K H y (.lst es))(q:RelV y u):∃b it,u=.ref b/\s.heap.IsList b (List.toArray it):=by
 simp only[Rep] at r;obtain⟨b,ys,rfl,h,_⟩:=r;cases q;obtain⟨it,_,ht,_⟩:=I.list h.sq;exact⟨b,it,rfl,ht.isList⟩
theorem MY(I:Inv X pins σ H s):∀(n:Nat) (A:Around) (d e:D) (x y:V) (v u:Value),dg n d->dg n e->A.units+n<cLine->Rep X.K H x d->Rep X.K H y e->RelV x v->RelV y u->RcAt A s v u (cW d e):=by
 intro n A d e x y v u hd he hu rx ry qx qy;have dD:A.units<cLine:=by omega
 cases d
 case non=>
  simp only[Rep] at rx;subst rx;cases qx;cases e
  case non=>cases o9 ry qy;exact RcAt.none_none
  case bl=>cases pe ry qy;exact RcAt.none_bool _
  case int=>obtain⟨t,rfl⟩:=pd ry qy;exact RcAt.none_int _ t
  case str=>obtain⟨t,rfl⟩:=o8 ry qy;exact RcAt.none_str _ t
  case tup=>obtain⟨b,it,rfl,h2⟩:=qO I ry qy;exact RcAt.none_tuple h2 dD
  case lst=>obtain⟨b,it,rfl,h2⟩:=qP I ry qy;exact RcAt.none_list h2 dD
  all_goals (cases n<;>cases he)
 case bl a=>
  simp only[Rep] at rx;subst rx;cases qx;cases e
  case non=>cases o9 ry qy;exact RcAt.bool_none _
  case bl=>cases pe ry qy;exact RcAt.bool_bool _ _
  case int=>obtain⟨t,rfl⟩:=pd ry qy;exact RcAt.bool_int _ _ t
  case str=>obtain⟨t,rfl⟩:=o8 ry qy;exact RcAt.bool_str _ _ t
  case tup=>obtain⟨b,it,rfl,h2⟩:=qO I ry qy;exact RcAt.bool_tuple _ h2 dD
  case lst=>obtain⟨b,it,rfl,h2⟩:=qP I ry qy;exact RcAt.bool_list _ h2 dD
  all_goals (cases n<;>cases he)
 case int a=>
  simp only[Rep] at rx;subst rx;obtain⟨t0,rfl⟩:=qx;cases e
  case non=>cases o9 ry qy;exact RcAt.int_none _ t0
  case bl=>cases pe ry qy;exact RcAt.int_bool _ t0 _
  case int=>obtain⟨t,rfl⟩:=pd ry qy;exact RcAt.int_int _ t0 _ t
  case str=>obtain⟨t,rfl⟩:=o8 ry qy;exact RcAt.int_str _ t0 _ t
  case tup=>obtain⟨b,it,rfl,h2⟩:=qO I ry qy;exact RcAt.int_tuple _ t0 h2 dD
  case lst=>obtain⟨b,it,rfl,h2⟩:=qP I ry qy;exact RcAt.int_list _ t0 h2 dD
  all_goals (cases n<;>cases he)
 case str a=>
  simp only[Rep] at rx;subst rx;obtain⟨t0,rfl⟩:=qx;cases e
  case non=>cases o9 ry qy;exact RcAt.str_none _ t0
  case bl=>cases pe ry qy;exact RcAt.str_bool _ t0 _
  case int=>obtain⟨t,rfl⟩:=pd ry qy;exact RcAt.str_int _ t0 _ t
  case str=>obtain⟨t,rfl⟩:=o8 ry qy;exact RcAt.str_str _ t0 _ t
  case tup=>obtain⟨b,it,rfl,h2⟩:=qO I ry qy;exact RcAt.str_tuple _ t0 h2 dD
  case lst=>obtain⟨b,it,rfl,h2⟩:=qP I ry qy;exact RcAt.str_list _ t0 h2 dD
  all_goals (cases n<;>cases he)
 case tup ds=>
  cases n with
  | zero=>cases hd
  | succ n=>
  have qK:A.in1.units+n<cLine:=by show A.units+1+n<cLine;omega
  simp only[Rep] at rx;obtain⟨a,xs,rfl,q,rs⟩:=rx;cases qx;obtain⟨its,rv,ht,_⟩:=I.tuple (fH.of q);have eh:s.heap.IsTuple a its.toArray:=ht;cases e
  case non=>cases o9 ry qy;exact RcAt.tuple_none eh dD
  case bl=>cases pe ry qy;exact RcAt.tuple_bool _ eh dD
  case int=>obtain⟨t,rfl⟩:=pd ry qy;exact RcAt.tuple_int _ t eh dD
  case str=>obtain⟨t,rfl⟩:=o8 ry qy;exact RcAt.tuple_str _ t eh dD
  case lst es=>obtain⟨b,it,rfl,h2⟩:=qP I ry qy;exact RcAt.tuple_list eh h2 dD
  case tup es=>
   simp only[Rep] at ry;obtain⟨b,ys,rfl,q',iX⟩:=ry;cases qy;obtain⟨its',kT,nM,_⟩:=I.tuple (fH.of q');have h:=RcAt.tuples (e:=fun j=>cW (ds.getD j .non) (es.getD j .non)) eh (show s.heap.IsTuple b its'.toArray from nM) dD fun j h1 h2=>by
    obtain⟨v1,a1,b1,c1⟩:=nZ rv rs h1;obtain⟨v2,a2,b2,c2⟩:=nZ kT iX h2;exact xv I n A.in1 _ _ v1 v2 _ _ (hd _ c1) (he _ c2) qK b1 b2 a1 a2
   have l1:its.toArray.size=ds.length:=by rw[ar,<-rv.length,rs.length]
   have l2:its'.toArray.size=es.length:=by rw[ar,<-kT.length,iX.length]
   rw[l1,l2,CP] at h;simpa only[cW] using h
  all_goals cases he
 case lst ds=>
  cases n with
  | zero=>cases hd
  | succ n=>
  have qK:A.in1.units+n<cLine:=by show A.units+1+n<cLine;omega
  simp only[Rep] at rx;obtain⟨a,xs,rfl,q,rs⟩:=rx;cases qx;obtain⟨its,rv,ht,_⟩:=I.list q.sq;have eh:=ht.isList;cases e
  case non=>cases o9 ry qy;exact RcAt.list_none eh dD
  case bl=>cases pe ry qy;exact RcAt.list_bool _ eh dD
  case int=>obtain⟨t,rfl⟩:=pd ry qy;exact RcAt.list_int _ t eh dD
  case str=>obtain⟨t,rfl⟩:=o8 ry qy;exact RcAt.list_str _ t eh dD
  case tup es=>obtain⟨b,it,rfl,h2⟩:=qO I ry qy;exact RcAt.list_tuple eh h2 dD
  case lst es=>
   simp only[Rep] at ry;obtain⟨b,ys,rfl,q',iX⟩:=ry;cases qy;obtain⟨its',kT,nM,_⟩:=I.list q'.sq;have l1:its.toArray.size=ds.length:=by rw[ar,<-rv.length,rs.length]
   have l2:its'.toArray.size=es.length:=by rw[ar,<-kT.length,iX.length]
   by_cases hl:ds.length=es.length
   ·have h:=RcAt.lists (e:=fun j=>cW (ds.getD j .non) (es.getD j .non)) eh nM.isList (by rw[l1,l2,hl]) dD fun j h1 h2=>by
     obtain⟨v1,a1,b1,c1⟩:=nZ rv rs h1;obtain⟨v2,a2,b2,c2⟩:=nZ kT iX h2;exact xv I n A.in1 _ _ v1 v2 _ _ (hd _ c1) (he _ c2) qK b1 b2 a1 a2
    rw[l1,<-xS ds es hl] at h;simpa only[cW] using h
   ·have h:=RcAt.lists_lengths (A:=A) eh nM.isList (by rw[l1,l2];simpa using hl) dD;simp only[cW,xT hl];exact h
  all_goals cases he
 all_goals (cases n<;>cases hd)
theorem O4(I:Inv X pins σ H s):∀(n:Nat) (A:Around) (d e:D) (x y:V) (v u:Value),dg n d->dg n e->A.units+n<cLine->Rep X.K H x d->Rep X.K H y e->RelV x v->RelV y u->RcNeAt A s v u (!cW d e):=by
 intro n A d e x y v u hd he hu rx ry qx qy;have dD:A.units<cLine:=by omega
 cases d
 case non=>
  simp only[Rep] at rx;subst rx;cases qx;cases e
  case non=>cases o9 ry qy;exact RcNeAt.none_none
  case bl=>cases pe ry qy;exact RcNeAt.none_bool _
  case int=>obtain⟨t,rfl⟩:=pd ry qy;exact RcNeAt.none_int _ t
  case str=>obtain⟨t,rfl⟩:=o8 ry qy;exact RcNeAt.none_str _ t
  case tup=>obtain⟨b,it,rfl,h2⟩:=qO I ry qy;exact RcNeAt.none_tuple h2 dD
  case lst=>obtain⟨b,it,rfl,h2⟩:=qP I ry qy;exact RcNeAt.none_list h2 dD
  all_goals (cases n<;>cases he)
 case bl a=>
  simp only[Rep] at rx;subst rx;cases qx;cases e
  case non=>cases o9 ry qy;exact RcNeAt.bool_none _
  case bl=>cases pe ry qy;exact RcNeAt.bool_bool _ _
  case int=>obtain⟨t,rfl⟩:=pd ry qy;exact RcNeAt.bool_int _ _ t
  case str=>obtain⟨t,rfl⟩:=o8 ry qy;exact RcNeAt.bool_str _ _ t
  case tup=>obtain⟨b,it,rfl,h2⟩:=qO I ry qy;exact RcNeAt.bool_tuple _ h2 dD
  case lst=>obtain⟨b,it,rfl,h2⟩:=qP I ry qy;exact RcNeAt.bool_list _ h2 dD
  all_goals (cases n<;>cases he)
 case int a=>
  simp only[Rep] at rx;subst rx;obtain⟨t0,rfl⟩:=qx;cases e
  case non=>cases o9 ry qy;exact RcNeAt.int_none _ t0
  case bl=>cases pe ry qy;exact RcNeAt.int_bool _ t0 _
  case int=>obtain⟨t,rfl⟩:=pd ry qy;exact RcNeAt.int_int _ t0 _ t
  case str=>obtain⟨t,rfl⟩:=o8 ry qy;exact RcNeAt.int_str _ t0 _ t
  case tup=>obtain⟨b,it,rfl,h2⟩:=qO I ry qy;exact RcNeAt.int_tuple _ t0 h2 dD
  case lst=>obtain⟨b,it,rfl,h2⟩:=qP I ry qy;exact RcNeAt.int_list _ t0 h2 dD
  all_goals (cases n<;>cases he)
 case str a=>
  simp only[Rep] at rx;subst rx;obtain⟨t0,rfl⟩:=qx;cases e
  case non=>cases o9 ry qy;exact RcNeAt.str_none _ t0
  case bl=>cases pe ry qy;exact RcNeAt.str_bool _ t0 _
  case int=>obtain⟨t,rfl⟩:=pd ry qy;exact RcNeAt.str_int _ t0 _ t
  case str=>obtain⟨t,rfl⟩:=o8 ry qy;exact RcNeAt.str_str _ t0 _ t
  case tup=>obtain⟨b,it,rfl,h2⟩:=qO I ry qy;exact RcNeAt.str_tuple _ t0 h2 dD
  case lst=>obtain⟨b,it,rfl,h2⟩:=qP I ry qy;exact RcNeAt.str_list _ t0 h2 dD
  all_goals (cases n<;>cases he)
 case tup ds=>
  cases n with
  | zero=>cases hd
  | succ n=>
  have qK:A.in1.units+n<cLine:=by show A.units+1+n<cLine;omega
  simp only[Rep] at rx;obtain⟨a,xs,rfl,q,rs⟩:=rx;cases qx;obtain⟨its,rv,ht,_⟩:=I.tuple (fH.of q);have eh:s.heap.IsTuple a its.toArray:=ht;cases e
  case non=>cases o9 ry qy;exact RcNeAt.tuple_none eh dD
  case bl=>cases pe ry qy;exact RcNeAt.tuple_bool _ eh dD
  case int=>obtain⟨t,rfl⟩:=pd ry qy;exact RcNeAt.tuple_int _ t eh dD
  case str=>obtain⟨t,rfl⟩:=o8 ry qy;exact RcNeAt.tuple_str _ t eh dD
  case lst es=>obtain⟨b,it,rfl,h2⟩:=qP I ry qy;exact RcNeAt.tuple_list eh h2 dD
  case tup es=>
   simp only[Rep] at ry;obtain⟨b,ys,rfl,q',iX⟩:=ry;cases qy;obtain⟨its',kT,nM,_⟩:=I.tuple (fH.of q');have h:=RcNeAt.tuples (e:=fun j=>cW (ds.getD j .non) (es.getD j .non)) eh (show s.heap.IsTuple b its'.toArray from nM) dD fun j h1 h2=>by
    obtain⟨v1,a1,b1,c1⟩:=nZ rv rs h1;obtain⟨v2,a2,b2,c2⟩:=nZ kT iX h2;exact xv I n A.in1 _ _ v1 v2 _ _ (hd _ c1) (he _ c2) qK b1 b2 a1 a2
   have l1:its.toArray.size=ds.length:=by rw[ar,<-rv.length,rs.length]
   have l2:its'.toArray.size=es.length:=by rw[ar,<-kT.length,iX.length]
   rw[l1,l2,CP] at h;simpa only[cW] using h
  all_goals cases he
 case lst ds=>
  cases n with
  | zero=>cases hd
  | succ n=>
  have qK:A.in1.units+n<cLine:=by show A.units+1+n<cLine;omega
  simp only[Rep] at rx;obtain⟨a,xs,rfl,q,rs⟩:=rx;cases qx;obtain⟨its,rv,ht,_⟩:=I.list q.sq;have eh:=ht.isList;cases e
  case non=>cases o9 ry qy;exact RcNeAt.list_none eh dD
  case bl=>cases pe ry qy;exact RcNeAt.list_bool _ eh dD
  case int=>obtain⟨t,rfl⟩:=pd ry qy;exact RcNeAt.list_int _ t eh dD
  case str=>obtain⟨t,rfl⟩:=o8 ry qy;exact RcNeAt.list_str _ t eh dD
  case tup es=>obtain⟨b,it,rfl,h2⟩:=qO I ry qy;exact RcNeAt.list_tuple eh h2 dD
  case lst es=>
   simp only[Rep] at ry;obtain⟨b,ys,rfl,q',iX⟩:=ry;cases qy;obtain⟨its',kT,nM,_⟩:=I.list q'.sq;have l1:its.toArray.size=ds.length:=by rw[ar,<-rv.length,rs.length]
   have l2:its'.toArray.size=es.length:=by rw[ar,<-kT.length,iX.length]
   by_cases hl:ds.length=es.length
   ·have h:=RcNeAt.lists (e:=fun j=>cW (ds.getD j .non) (es.getD j .non)) eh nM.isList (by rw[l1,l2,hl]) dD fun j h1 h2=>by
     obtain⟨v1,a1,b1,c1⟩:=nZ rv rs h1;obtain⟨v2,a2,b2,c2⟩:=nZ kT iX h2;exact xv I n A.in1 _ _ v1 v2 _ _ (hd _ c1) (he _ c2) qK b1 b2 a1 a2
    rw[l1,<-xS ds es hl] at h;simpa only[cW] using h
   ·have h:=RcNeAt.lists_lengths (A:=A) eh nM.isList (by rw[l1,l2];simpa using hl) dD;simp only[cW,xT hl];exact h
  all_goals cases he
 all_goals (cases n<;>cases hd)
end
section
variable {X:Cx}
def oEq:O2:=fun d e Q=>dg 9 d/\dg 9 e/\Q (.fz (.bl (cW d e)))
def yO:O2:=fun d e Q=>dg 9 d/\dg 9 e/\Q (.fz (.bl (!cW d e)))
theorem ic(hu:X.A.units+64<cLine):jP X (compareOp .Eq) oEq:=by
 refine⟨fun x y H Q=>∃d e,dg 9 d/\dg 9 e/\Rep X.K H x d/\Rep X.K H y e/\Q (.bl (cW d e)) H,fun pins s σ H x y v u Q I rx ry h=>?_,fun G H x y d e Q P s rx ry h k=>?_⟩
 ·obtain⟨d,e,hd,he,rd,re,q⟩:=h;exact MY I 9 X.A d e x y v u hd he (by omega) rd re rx ry _ _ _ _ ⟨.bl _,H,I,rfl,q⟩
 ·exact⟨d,e,h.1,h.2.1,rx.mono s,ry.mono s,k _ _ _ G (.refl s) (fj (jy _ _ _)) h.2.2⟩
theorem BL(hu:X.A.units+64<cLine):jP X (compareOp .NotEq) yO:=by
 refine⟨fun x y H Q=>∃d e,dg 9 d/\dg 9 e/\Rep X.K H x d/\Rep X.K H y e/\Q (.bl (!cW d e)) H,fun pins s σ H x y v u Q I rx ry h=>?_,fun G H x y d e Q P s rx ry h k=>?_⟩
 ·obtain⟨d,e,hd,he,rd,re,q⟩:=h;exact O4 I 9 X.A d e x y v u hd he (by omega) rd re rx ry _ _ _ _ ⟨.bl _,H,I,rfl,q⟩
 ·exact⟨d,e,h.1,h.2.1,rx.mono s,ry.mono s,k _ _ _ G (.refl s) (fj (jy _ _ _)) h.2.2⟩
noncomputable def inD(d:D)(ds:List D):Bool:=ds.any fun e=>cW e d
def jv(neg:Bool):O2:=fun d e Q=>match d,e with
 | .str x,.str y=>Q (.fz (.bl (if neg then !(!(Builtin.Str.occurrences y x 0 y.length 1).isEmpty) else !(Builtin.Str.occurrences y x 0 y.length 1).isEmpty)))
 | d,.lst es=>dg 8 d/\(∀e∈es,dg 8 e)/\Q (.fz (.bl (if neg then !inD d es else inD d es)))
 | d,.tup es=>dg 8 d/\(∀e∈es,dg 8 e)/\Q (.fz (.bl (if neg then !inD d es else inD d es)))
 | _,_=>False
noncomputable def lK(X:Cx)(H:Hp)(d:D)(u:Value):Bool:=open Classical in if h:∃(v:V) (e:D),dg 8 e/\RelV v u/\Rep X.K H v e then cW h.choose_spec.choose d else false
theorem Cn{pins:List (Addr×Obj)}{σ:St}{H:Hp}{s:Shared}(I:Inv X pins σ H s){d e:D}{v:V}{u:Value}(he:dg 8 e)(rv:RelV v u)(re:Rep X.K H v e):lK X H d u=cW e d:=by
 have h:∃(v:V) (e:D),dg 8 e/\RelV v u/\Rep X.K H v e:=⟨v,e,he,rv,re⟩
 unfold lK;rw[dif_pos h];obtain⟨h1,h2,h3⟩:=h.choose_spec.choose_spec;have e1:h.choose=v:=RelV.inj h2 rv;have h4:∀v',v'=v->∀e',dg 8 e'->Rep X.K H v' e'->e'=e:=fun v' hv e' o r=>by subst hv;exact Av I 8 _ e _ o he r re
 rw[h4 _ e1 _ h1 h3]
theorem xu{pins:List (Addr×Obj)}{σ:St}{H:Hp}{s:Shared}(I:Inv X pins σ H s){d:D}:∀{es:List D} {vs:List V} {us:List Value},(∀e∈es,dg 8 e)->Vals vs us->bB X.K H vs es->us.any (lK X H d)=inD d es
 | [],_,_,_,rv,re=>by
  cases rv
  ·rfl
  ·simp only[bB] at re
 | e::es,_,_,h,rv,re=>by
  cases rv with
  | nil=>simp only[bB] at re
  | cons r t=>
   simp only[bB] at re;rw[List.any_cons,Cn I (h e (by simp)) r re.1,xu I (fun x hx=>h x (by simp[hx])) t re.2];rfl
theorem xR{pins:List (Addr×Obj)}{σ:St}{H:Hp}{s:Shared}{A:Around}(I:Inv X pins σ H s){d:D}{x:V}{v:Value}(hd:dg 8 d)(hu:A.units+8<cLine)(rx:Rep X.K H x d)(qx:RelV x v){es:List D}{vs:List V}{us:List Value}
  (he:∀e∈es,dg 8 e) (rv:Vals vs us) (re:bB X.K H vs es):∀u∈us.toArray,EqAt A s u v (lK X H d u):=fun u Uo=>by
 obtain⟨j,hj,e⟩:=Array.mem_iff_getElem.mp Uo;obtain⟨w,a1,b1,c1⟩:=nZ rv re hj;rw[e] at a1;rw[Cn I (he _ c1) a1 b1];exact xv I 8 A _ _ w x _ _ (he _ c1) hd hu b1 rx a1 qx
theorem MX(hu:X.A.units+64<cLine):gh X (compareOp .In) (fun x y H Q=>∃p d es vs,y=.ref p/\(gc X.K H p vs\/fH X.K H p vs)/\dg 8 d/\(∀e∈es,dg 8 e)/\Rep X.K H x d/\bB X.K H vs es/\Q (.bl (inD d es)) H):=by
 intro pins s σ H x y v u Q I rx ry h;obtain⟨p,d,es,vs,rfl,hq,hd,he,rd,re,q⟩:=h;cases ry;rcases hq with hq | hq
 ·obtain⟨its,r,pl,hz⟩:=I.list hq;refine SeqAt.in_listAt (lK X H d) pl.isList (xR I hd (by show X.A.units+1+8<cLine;omega) rd rx he r re) ⟨.bl _,H,I,rfl,?_⟩;rw[show its.toArray.any (lK X H d)=its.any (lK X H d) by simp,xu I he r re];exact q
 ·obtain⟨its,r,pl,hz⟩:=I.tuple hq;refine SeqAt.in_tupleAt (lK X H d) pl (xR I hd (by show X.A.units+1+8<cLine;omega) rd rx he r re) ⟨.bl _,H,I,rfl,?_⟩;rw[show its.toArray.any (lK X H d)=its.any (lK X H d) by simp,xu I he r re];exact q
theorem Qm(hu:X.A.units+64<cLine):gh X (compareOp .NotIn) (fun x y H Q=>∃p d es vs,y=.ref p/\(gc X.K H p vs\/fH X.K H p vs)/\dg 8 d/\(∀e∈es,dg 8 e)/\Rep X.K H x d/\bB X.K H vs es/\Q (.bl (!inD d es)) H):=by
 intro pins s σ H x y v u Q I rx ry h;obtain⟨p,d,es,vs,rfl,hq,hd,he,rd,re,q⟩:=h;cases ry;rcases hq with hq | hq
 ·obtain⟨its,r,pl,hz⟩:=I.list hq;refine SeqAt.notIn_listAt (lK X H d) pl.isList (xR I hd (by show X.A.units+1+8<cLine;omega) rd rx he r re) ⟨.bl _,H,I,rfl,?_⟩;rw[show its.toArray.any (lK X H d)=its.any (lK X H d) by simp,xu I he r re];exact q
 ·obtain⟨its,r,pl,hz⟩:=I.tuple hq;refine SeqAt.notIn_tupleAt (lK X H d) pl (xR I hd (by show X.A.units+1+8<cLine;omega) rd rx he r re) ⟨.bl _,H,I,rfl,?_⟩;rw[show its.toArray.any (lK X H d)=its.any (lK X H d) by simp,xu I he r re];exact q
theorem qu(hu:X.A.units+64<cLine):jP X (compareOp .In) (jv false):=by
 refine⟨_,oj.or (MX hu),fun G H x y d e Q P s rx ry h k=>?_⟩;unfold jv at h;split at h
 ·simp only[Rep] at rx ry;exact .inl ⟨_,_,rx,ry,k _ _ _ G (.refl s) (fj (jy _ _ _)) h⟩
 ·simp only[Rep] at ry;obtain⟨a,ys,rfl,hy,qJ⟩:=ry;exact .inr ⟨a,_,_,ys,rfl,.inl ((s.gH hy).sq),h.1,h.2.1,rx.mono s,qJ.mono s,k _ _ _ G (.refl s) (fj (jy _ _ _)) h.2.2⟩
 ·simp only[Rep] at ry;obtain⟨a,ys,rfl,hy,qJ⟩:=ry;exact .inr ⟨a,_,_,ys,rfl,.inr (s.lV hy),h.1,h.2.1,rx.mono s,qJ.mono s,k _ _ _ G (.refl s) (fj (jy _ _ _)) h.2.2⟩
 ·exact h.elim
theorem vF(hu:X.A.units+64<cLine):jP X (compareOp .NotIn) (jv true):=by
 refine⟨_,kW.or (Qm hu),fun G H x y d e Q P s rx ry h k=>?_⟩;unfold jv at h;split at h
 ·simp only[Rep] at rx ry;exact .inl ⟨_,_,rx,ry,k _ _ _ G (.refl s) (fj (jy _ _ _)) h⟩
 ·simp only[Rep] at ry;obtain⟨a,ys,rfl,hy,qJ⟩:=ry;exact .inr ⟨a,_,_,ys,rfl,.inl ((s.gH hy).sq),h.1,h.2.1,rx.mono s,qJ.mono s,k _ _ _ G (.refl s) (fj (jy _ _ _)) h.2.2⟩
 ·simp only[Rep] at ry;obtain⟨a,ys,rfl,hy,qJ⟩:=ry;exact .inr ⟨a,_,_,ys,rfl,.inr (s.lV hy),h.1,h.2.1,rx.mono s,qJ.mono s,k _ _ _ G (.refl s) (fj (jy _ _ _)) h.2.2⟩
 ·exact h.elim
noncomputable def uf:D->Bool
 | .non=>true
 | _=>false
def pq(neg:Bool):O2:=fun d e Q=>match e with
 | .non=>Q (.fz (.bl (if neg then !uf d else uf d)))
 | _=>False
theorem Iz{K:PySem.W.Frag}{G:Hp}{x:V}{d:D}(r:Rep K G x d):decide (x=.non)=uf d:=by
 cases d<;>simp only[Rep] at r
 case non=>subst r;rfl
 case bl=>subst r;rfl
 case int=>subst r;rfl
 case str=>subst r;rfl
 case tup=>obtain⟨_,_,rfl,_⟩:=r;rfl
 case lst=>obtain⟨_,_,rfl,_⟩:=r;rfl
 case obj=>obtain⟨_,_,_,_,rfl,_⟩:=r;rfl
 case dic=>obtain⟨_,_,_,rfl,_⟩:=r;rfl
 case dit=>obtain⟨_,_,_,rfl,_⟩:=r;rfl
 case exc=>obtain⟨_,_,_,_,_,rfl,_⟩:=r;rfl
 case idn=>obtain⟨rfl,_⟩:=r;rfl
theorem LB:jP X (compareOp .Is) (pq false):=by
 refine⟨_,Mv,fun G H x y d e Q P s rx ry h k=>?_⟩;unfold pq at h;split at h
 ·simp only[Rep] at ry;refine⟨ry,?_⟩;rw[Iz rx];exact k _ _ _ G (.refl s) (fj (jy _ _ _)) h
 ·exact h.elim
theorem xA:jP X (compareOp .IsNot) (pq true):=by
 refine⟨_,Oi,fun G H x y d e Q P s rx ry h k=>?_⟩;unfold pq at h;split at h
 ·simp only[Rep] at ry;refine⟨ry,?_⟩;rw[Iz rx];exact k _ _ _ G (.refl s) (fj (jy _ _ _)) h
 ·exact h.elim
end
end L2
namespace L2
open PySem PySem.Spec PyProof.Rows
section
variable {X:Cx} {pos:Pos} {a b c:Expr} {ta tb tc:TD} {pa we:iP} {rest:List Expr}
def sM(t:iP):iP:=fun ρ Q=>t ρ fun k=>Q (!k)
def qt(t u:iP):iP:=fun ρ Q=>t ρ fun k=>if k=true then u ρ Q else Q false
def sD(t u:iP):iP:=fun ρ Q=>t ρ fun k=>if k=true then Q true else u ρ Q
theorem vC(h:PB X a pa):PB X (.UnaryOp .Not a pos) (sM pa):=by
 obtain⟨t,p,q⟩:=h;exact⟨_,MG p,fun ρ σ G0 H0 G H Q P E h k=>q ρ σ G0 H0 G H _ _ E h fun b H' G' x hq=>k _ H' G' x hq⟩
def t5(X:Cx)(e:Expr)(t:iP):Prop:=∃tt,PW X e tt/\∀(ρ:Ev) (σ:St) (G0 H0 G H:Hp) (Q:Bool->Prop) (P:Bool->Hp->Prop),cF X.K G0 H0 ρ σ G H->t ρ Q->
 (∀b H' G',Ext G H G' H'->Q b->P b H')->tt σ H P
theorem t5.pb{e:Expr}{t:iP}(h:t5 X e t):PB X e t:=let⟨tt,p,q⟩:=h;⟨tt,p.pt,q⟩
theorem vP(h:PB X a pa):t5 X (.BoolOp .And [a] pos) pa:=let⟨tt,p,q⟩:=h;⟨tt,Oo p,q⟩
theorem vE(h:PB X a pa):t5 X (.BoolOp .Or [a] pos) pa:=let⟨tt,p,q⟩:=h;⟨tt,MI p,q⟩
theorem td(h:PB X a pa)(h':t5 X (.BoolOp .And (b::rest) pos) we):t5 X (.BoolOp .And (a::b::rest) pos) (qt pa we):=by
 obtain⟨t,p,q⟩:=h;obtain⟨t',p',q'⟩:=h';refine⟨_,MH p p',fun ρ σ G0 H0 G H Q P E h k=>q ρ σ G0 H0 G H _ _ E h fun b H' G' x hq=>?_⟩;cases b with
 | true=>rw[if_pos rfl] at hq ⊢;exact q' ρ σ G0 H0 G' H' Q P (E.ext x) hq fun b2 H2 G2 x2 h2=>k b2 H2 G2 (x.trans x2) h2
 | false=>rw[if_neg az] at hq ⊢;exact k false H' G' x hq
theorem ui(h:PB X a pa)(h':t5 X (.BoolOp .Or (b::rest) pos) we):t5 X (.BoolOp .Or (a::b::rest) pos) (sD pa we):=by
 obtain⟨t,p,q⟩:=h;obtain⟨t',p',q'⟩:=h';refine⟨_,Mg p p',fun ρ σ G0 H0 G H Q P E h k=>q ρ σ G0 H0 G H _ _ E h fun b H' G' x hq=>?_⟩;cases b with
 | true=>rw[if_pos rfl] at hq ⊢;exact k true H' G' x hq
 | false=>rw[if_neg az] at hq ⊢;exact q' ρ σ G0 H0 G' H' Q P (E.ext x) hq fun b2 H2 G2 x2 h2=>k b2 H2 G2 (x.trans x2) h2
def LA(t:TD):TD:=fun ρ Q=>t ρ fun r=>match r with
 | .fz (.bl k)=>Q (.fz (.bl (!k)))
 | _=>False
def xj(t u:TD):TD:=fun ρ Q=>t ρ fun r=>match r with
 | .fz (.bl k)=>if k=true then u ρ Q else Q (.fz (.bl false))
 | _=>False
def FD(t u:TD):TD:=fun ρ Q=>t ρ fun r=>match r with
 | .fz (.bl k)=>if k=true then Q (.fz (.bl true)) else u ρ Q
 | _=>False
theorem Ac{op}(h:PD X a ta):PD X (.BoolOp op [a] pos) ta:=let⟨t,p,q⟩:=h;⟨t,MF p,q⟩
theorem Ck(h:PD X a ta)(h':PD X (.BoolOp .And (b::rest) pos) tb):PD X (.BoolOp .And (a::b::rest) pos) (xj ta tb):=by
 obtain⟨t,p,q⟩:=h;obtain⟨t',p',q'⟩:=h';refine⟨_,ME p p',fun ρ σ G0 H0 G H Q P E h k=>q ρ σ G0 H0 G H _ _ E h fun v H' r G' x rr hq=>?_⟩;split at hq
 ·rename_i kk;have e:v=.bl kk:=by simpa only[de,Rep] using rr
  refine⟨kk,e,?_⟩;cases kk with
  | true=>rw[if_pos rfl] at hq ⊢;exact q' ρ σ G0 H0 G' H' Q P (E.ext x) hq fun b2 H2 r2 G2 x2 rP h2=>k b2 H2 r2 G2 (x.trans x2) (rP.ef x.h) h2
  | false=>rw[if_neg az] at hq ⊢;exact k _ H' _ G' x (fj (jy _ _ _)) hq
 ·exact hq.elim
theorem LV(h:PD X a ta)(h':PD X (.BoolOp .Or (b::rest) pos) tb):PD X (.BoolOp .Or (a::b::rest) pos) (FD ta tb):=by
 obtain⟨t,p,q⟩:=h;obtain⟨t',p',q'⟩:=h';refine⟨_,Me p p',fun ρ σ G0 H0 G H Q P E h k=>q ρ σ G0 H0 G H _ _ E h fun v H' r G' x rr hq=>?_⟩;split at hq
 ·rename_i kk;have e:v=.bl kk:=by simpa only[de,Rep] using rr
  refine⟨kk,e,?_⟩;cases kk with
  | true=>rw[if_pos rfl] at hq ⊢;exact k _ H' _ G' x (fj (jy _ _ _)) hq
  | false=>rw[if_neg az] at hq ⊢;exact q' ρ σ G0 H0 G' H' Q P (E.ext x) hq fun b2 H2 r2 G2 x2 rP h2=>k b2 H2 r2 G2 (x.trans x2) (rP.ef x.h) h2
 ·exact hq.elim
def zE(t:iP)(ta tb:TD):TD:=fun ρ Q=>t ρ fun k=>if k=true then ta ρ Q else tb ρ Q
theorem Iy(h:PB X c pa)(h1:PD X a ta)(h2:PD X b tb):PD X (.IfExp c a b pos) (zE pa ta tb):=by
 obtain⟨t,p,q⟩:=h;obtain⟨t1,p1,q1⟩:=h1;obtain⟨t2,p2,q2⟩:=h2;refine⟨_,OJ p p1 p2,fun ρ σ G0 H0 G H Q P E h k=>q ρ σ G0 H0 G H _ _ E h fun b H' G' x hq=>?_⟩;cases b with
 | true=>rw[if_pos rfl] at hq ⊢;exact q1 ρ σ G0 H0 G' H' Q P (E.ext x) hq fun b2 H2 r2 G2 x2 rP h2=>k b2 H2 r2 G2 (x.trans x2) (rP.ef x.h) h2
 | false=>rw[if_neg az] at hq ⊢;exact q2 ρ σ G0 H0 G' H' Q P (E.ext x) hq fun b2 H2 r2 G2 x2 rP h2=>k b2 H2 r2 G2 (x.trans x2) (rP.ef x.h) h2
def uh(o o':O2)(ta tb tc:TD):TD:=fun ρ Q=>ta ρ fun ra=>tb ρ fun rb=>o ra.val rb.val fun r=>match r with
 | .fz (.bl k)=>if k=true then tc ρ fun rc=>o' rb.val rc.val Q else Q (.fz (.bl false))
 | _=>False
abbrev qQ(K:PySem.W.Frag)(t:TD)(tt:TE):Prop:=∀(ρ:Ev) (σ:St) (G0 H0 G H:Hp) (Q:R->Prop) (P:VK),cF K G0 H0 ρ σ G H->t ρ Q->(∀v H' r G',Ext G H G' H'->de K G' H' H v r->Q r->P v H')->tt σ H P
theorem Iw{K:PySem.W.Frag}{g g':Int->Int->Bool}{t1 t2 t3:TE}(q1:qQ K ta t1)(q2:qQ K tb t2)(q3:qQ K tc t3) :
  qQ K (uh (gM fun i j=>.bl (g i j)) (gM fun i j=>.bl (g' i j)) ta tb tc) (Cf (mT fun i j=>.bl (g i j)) (mT fun i j=>.bl (g' i j)) t1 t2 t3):=by
 refine fun ρ σ G0 H0 G H Q P E h k=>q1 ρ σ G0 H0 G H _ _ E h fun v1 H1 r1 G1 x1 TJ y4=>?_
 obtain⟨FL,tu,DZ,_⟩:=TJ.freeze x1;refine q2 ρ σ G0 H0 FL H1 _ _ (E.ext tu) y4 fun v2 H2 r2 G2 x2 rP kq=>?_
 obtain⟨BE,tm,A6,_⟩:=rP.freeze x2;unfold gM at kq;split at kq
 ·rename_i i j e1 e2;rw[e1] at DZ;rw[e2] at A6;simp only[Rep] at DZ A6;refine⟨i,j,DZ,A6,_,rfl,?_⟩;dsimp only at kq;cases hk:g i j with
  | false=>
   rw[hk,if_neg az] at kq;rw[if_neg az];exact k _ _ _ BE (tu.trans tm) (fj (jy _ _ _)) kq
  | true=>
   rw[hk,if_pos rfl] at kq;rw[if_pos rfl];refine q3 ρ σ G0 H0 BE H2 _ _ (E.ext (tu.trans tm)) kq fun v3 H3 r3 G3 x3 D1 gN=>?_
   obtain⟨VI,S8,oi,_⟩:=D1.freeze x3;rw[e2] at gN;split at gN
   ·rename_i i' j' e3 e4;cases e3;rw[e4] at oi;simp only[Rep] at oi;exact⟨j,j',A6,oi,k _ _ _ VI ((tu.trans tm).trans S8) (fj (jy _ _ _)) gN⟩
   ·exact gN.elim
 ·exact kq.elim
theorem MW{K:PySem.W.Frag}{t:TD}{tt:TE}(q:qQ K t tt)(ρ:Ev)(σ:St)(G0 H0 G H:Hp)(Q:Bool->Prop)(P:Bool->Hp->Prop)(E:cF K G0 H0 ρ σ G H)(h:cL t ρ Q)(k:∀b H' G',Ext G H G' H'->Q b->P b H'):BW tt σ H P:=by
 refine q ρ σ G0 H0 G H _ _ E h fun v H' r G' x1 r1 h1=>?_
 split at h1
 ·rename_i kk;have e:v=.bl kk:=by simpa only[de,Rep] using r1
  exact⟨kk,e,k kk H' G' x1 h1⟩
 ·exact h1.elim
theorem Ib{op mV:CmpOp}{g g':Int->Int->Bool}(ho:gh X (compareOp op) (mT fun i j=>.bl (g i j)))(ku:gh X (compareOp mV) (mT fun i j=>.bl (g' i j)))(h1:PD X a ta)(h2:PD X b tb)(h3:PD X c tc)(hm:lastMarks [op,mV] [b,c]=false:=by with_unfolding_all rfl) :
  PD X (.Compare a [op,mV] [b,c] pos) (uh (gM fun i j=>.bl (g i j)) (gM fun i j=>.bl (g' i j)) ta tb tc):=by
 obtain⟨t1,p1,q1⟩:=h1;obtain⟨t2,p2,q2⟩:=h2;obtain⟨t3,p3,q3⟩:=h3;exact⟨_,OF ho ku p1 p2 p3 hm,Iw q1 q2 q3⟩
theorem O3{op mV:CmpOp}{g g':Int->Int->Bool}(ho:gh X (compareOp op) (mT fun i j=>.bl (g i j)))(ku:gh X (compareOp mV) (mT fun i j=>.bl (g' i j)))(h1:PD X a ta)(h2:PD X b tb)(h3:PD X c tc)(hm:lastMarks [op,mV] [b,c]=false:=by with_unfolding_all rfl) :
  PB X (.Compare a [op,mV] [b,c] pos) (cL (uh (gM fun i j=>.bl (g i j)) (gM fun i j=>.bl (g' i j)) ta tb tc)):=by
 obtain⟨t1,p1,q1⟩:=h1;obtain⟨t2,p2,q2⟩:=h2;obtain⟨t3,p3,q3⟩:=h3;exact⟨_,OE ho ku p1 p2 p3 hm,MW (Iw q1 q2 q3)⟩
def cM:O2:=fun d e Q=>match d,e with
 | .lst ds,.int i=>∃d,fF ds i=some d/\Q (.fz d)
 | .tup ds,.int i=>∃d,fF ds i=some d/\Q (.fz d)
 | .str z,.int i=>z.length<=sizeLine/\∃c,fF z.cps.toList i=some c/\Q (.fz (.str ⟨#[c]⟩))
 | _,_=>False
theorem CA{K:PySem.W.Frag}{G:Hp}{xs:List V}{ds:List D}{i:Int}{d:D}(r:bB K G xs ds)(h:fF ds i=some d):∃v,fF xs i=some v/\Rep K G v d:=by
 unfold fF at h ⊢;rw[r.length];cases e:rS ds.length i with
 | none=>rw[e] at h;cases h
 | some j=>
  rw[e] at h;simp only[Option.bind_some] at h ⊢;exact r.get h
theorem cV(h1:PD X a ta)(h2:PD X b tb)(hs:CD b:=by intro _ _;rfl):PD X (.Subscript a b pos) (bE cM ta tb):=by
 obtain⟨t1,p1,q1⟩:=h1;obtain⟨t2,p2,q2⟩:=h2;refine⟨_,Gk Gs p1 p2 hs,Ad (r:=JH X.K) (fun G H x y d e Q P s rx ry h k=>?_) q1 q2⟩;unfold cM at h;split at h
 ·simp only[Rep] at rx ry;obtain⟨p,xs,rfl,hq,rs⟩:=rx;obtain⟨d,hd,q⟩:=h;obtain⟨v,hv,rv⟩:=CA rs hd;exact .inl ⟨p,xs,_,v,rfl,ry,(s.gH hq).sq,hv,k _ _ _ G (.refl s) (fj rv) q⟩
 ·simp only[Rep] at rx ry;obtain⟨p,xs,rfl,hq,rs⟩:=rx;obtain⟨d,hd,q⟩:=h;obtain⟨v,hv,rv⟩:=CA rs hd;exact .inr (.inl ⟨p,xs,_,v,rfl,ry,s.lV hq,hv,k _ _ _ G (.refl s) (fj rv) q⟩)
 ·simp only[Rep] at rx ry;obtain⟨hz,c,hc,q⟩:=h;exact .inr (.inr ⟨_,_,c,rx,ry,hz,hc,k _ _ _ G (.refl s) (fj (vG _ _ _)) q⟩)
 ·exact h.elim
def vj(i:Nat)(tb:TD):TD:=fun ρ Q=>match gt ρ i with
 | .ow ds=>tb ρ fun rb=>match rb.val with
  | .int j=>∃d,fF ds j=some d/\Q (.fz d)
  | _=>False
 | _=>False
theorem Cj(i:Nat){x:Str}{p':Pos}(h2:PD X b tb)(hN:X.N[i]?=some x:=by rfl)(hv:l8 X.env.scope x:=by first | exact Or.inl rfl | exact Or.inr (Or.inl rfl) | exact Or.inr (Or.inr rfl))(hs:CD b:=by intro _ _;rfl)(hd:(x==("__debug__":Str))=false:=by decide)
  (iO:(x==("__classdict__":Str))=false:=by decide):PD X (.Subscript (.Name x p') b pos) (vj i tb):=by
 obtain⟨t2,p2,q2⟩:=h2;refine⟨_,Gk Gs (oR hN hv hd iO) p2 hs,fun ρ σ G0 H0 G H Q P E h k=>?_⟩;unfold vj at h;split at h
 ·rename_i ds hg;obtain⟨p,xs,h1,h2,h3,h4,h5⟩:=E.ow i ds hg;refine⟨_,h1,q2 ρ σ G0 H0 G H _ _ E h fun v H' r G' x1 rr hq=>?_⟩;obtain⟨G2,x2,rv,_⟩:=rr.freeze x1;split at hq
  ·rename_i j e2;obtain⟨d,sr,q⟩:=hq;obtain⟨w',hw,rO⟩:=CA (h5.mono x2.g) sr;rw[e2] at rv;simp only[Rep] at rv;exact .inl ⟨p,xs,_,w',rfl,rv,gc.of (x2.h _ _ h2),hw,k _ _ _ G2 x2 (fj rO) q⟩
  ·exact hq.elim
 ·exact h.elim
variable {e:Expr} {es:List Expr} {te:TD} {ts:iI}
def bQ:iI:=fun _ Q=>Q []
def bF(te:TD)(ts:iI):iI:=fun ρ Q=>te ρ fun r=>ts ρ fun ds=>Q (r.val::ds)
theorem bR:lb X [] bQ:=⟨_,pE,fun ρ σ G0 H0 G H Q P E h k=>k [] H [] G (.refl E.e.s) bB.nil h⟩
theorem bG(h:PD X e te)(hr:lb X es ts)(hs:starEach (e::es) X.env=(false,eval e X.env)::starEach es X.env:=by rfl):lb X (e::es) (bF te ts):=by
 obtain⟨t1,p1,q1⟩:=h;obtain⟨t2,p2,q2⟩:=hr;refine⟨_,mK p1 p2 hs,fun ρ σ G0 H0 G H Q P E h k=>q1 ρ σ G0 H0 G H _ _ E h fun v H' r G' x1 rr hq=>?_⟩;obtain⟨G2,x2,rv,_⟩:=rr.freeze x1;refine q2 ρ σ G0 H0 G2 H' _ _ (E.ext x2) hq fun vs H3 ds G3 x3 rs gN=>?_
 exact k _ H3 _ G3 (x2.trans x3) (bB.cons (rv.mono x3.g) rs) gN
def gq(ts:iI):TD:=fun ρ Q=>ts ρ fun ds=>ds.length<=sizeLine/\Q (.fz (.tup ds))
def fX(ts:iI):TD:=fun ρ Q=>ts ρ fun ds=>ds.length<=sizeLine/\Q (.ow ds)
theorem gY{x1}(h:lb X es ts):PD X (.Tuple es x1 pos) (gq ts):=by
 obtain⟨t,p,q⟩:=h;refine⟨_,Gu p,fun ρ σ G0 H0 G H Q P E h k=>q ρ σ G0 H0 G H _ _ E h fun vs H' ds G' x rs hq=>⟨by rw[rs.length];exact hq.1,fun p hp=>?_⟩⟩;have x2:Ext G' H' (upd G' p (.tup vs)) (upd H' p (.tup vs)):=.new x.s hp;refine k _ _ (.fz (.tup ds)) _ (x.trans x2) ?_ hq.2;show Rep X.K _ _ (.tup ds);simp only[Rep];exact⟨p,vs,rfl,gB,rs.mono x2.g⟩
theorem gr(h:lb X es ts):PD X (.List es pos) (fX ts):=by
 obtain⟨t,p,q⟩:=h;refine⟨_,Ms p,fun ρ σ G0 H0 G H Q P E h k=>q ρ σ G0 H0 G H _ _ E h fun vs H' ds G' x rs hq=>⟨by rw[rs.length];exact hq.1,fun p hp=>?_⟩⟩;exact k _ _ (.ow ds) G' (x.trans (.own x.s hp)) ⟨p,vs,rfl,x.h.free hp,x.s.free hp,gB,rs⟩ hq.2
def pv(X:Cx)(f:Value)(o:List D->(R->Prop)->Prop):Prop:=∃r,c8 X f r/\∀(G H:Hp) (vs:List V) (ds:List D) (Q:R->Prop) (P:VK),bL G H->bB X.K G vs ds->o ds Q->
 (∀v H' r' G',Ext G H G' H'->de X.K G' H' H v r'->Q r'->P v H')->r vs H P
def ek(o:List D->(R->Prop)->Prop)(ts:iI):TD:=fun ρ Q=>ts ρ fun ds=>o ds Q
theorem Gi{o:List D->(R->Prop)->Prop}{r:List V->Hp->VK->Prop}{t:TA}
  (hr:∀(G H:Hp) (vs:List V) (ds:List D) (Q:R->Prop) (P:VK),bL G H->bB X.K G vs ds->o ds Q->(∀v H' r' G',Ext G H G' H'->de X.K G' H' H v r'->Q r'->P v H')->r vs H P)
  (q:∀(ρ:Ev) (σ:St) (G0 H0 G H:Hp) (Q:List D->Prop) (P:List V->Hp->Prop),cF X.K G0 H0 ρ σ G H->ts ρ Q->(∀vs H' ds G',Ext G H G' H'->bB X.K G' vs ds->Q ds->P vs H')->t σ H P):qQ X.K (ek o ts) (DR r t):=
 fun ρ σ G0 H0 G H Q P E h k=>q ρ σ G0 H0 G H _ _ E h fun vs H' ds G' x rs hq=>hr G' H' vs ds Q P x.s rs hq fun v H2 r' G2 x2 rr q2=>k v H2 r' G2 (x.trans x2) (rr.ef x.h) q2
theorem gD{id:String}{x:Str}{p:Pos}{o:List D->(R->Prop)->Prop}(hc:pv X (.builtin id) o)(hm:X.mg x=none)(hv:bootBuiltins x=some (.builtin id))(ha:lb X (e::es) ts)(hg:Gl X x:=by rfl)(hn:x≠"__name__":=by decide)(js:(x==("__debug__":Str))=false:=by decide)
  (he:starEach (e::es) X.env=(false,eval e X.env)::starEach es X.env:=by rfl) (fR:(backTo pos (starEach es X.env)).any (·.1)=false:=by rfl):PD X (.Call (.Name x p) (e::es) [] pos) (ek o ts):=by
 obtain⟨r,hr,oq⟩:=hc;obtain⟨t,pp,q⟩:=ha;exact⟨_,vQ hr hg hm hv pp hn js he fR,Gi oq q⟩
theorem qF{T:String}{x:Str}{p:Pos}{o:List D->(R->Prop)->Prop}(hc:pv X (.type T) o)(hm:X.mg x=none)(hv:bootBuiltins x=some (.type T))(ha:lb X (e::es) ts)(hg:Gl X x:=by rfl)(hn:x≠"__name__":=by decide)(js:(x==("__debug__":Str))=false:=by decide)
  (he:starEach (e::es) X.env=(false,eval e X.env)::starEach es X.env:=by rfl) (fR:(backTo pos (starEach es X.env)).any (·.1)=false:=by rfl):PD X (.Call (.Name x p) (e::es) [] pos) (ek o ts):=by
 obtain⟨r,hr,oq⟩:=hc;obtain⟨t,pp,q⟩:=ha;exact⟨_,IJ hr hg hm hv pp hn js he fR,Gi oq q⟩
end
end L2
namespace L2
open PySem PySem.Spec PyProof.Rows
theorem nW{σ:St}{i j:Nat}{x:Option V}:(σ.set i x)[j]?=if i=j/\j<σ.length then some x else σ[j]?:=by
 by_cases h:i=j
 ·subst h;by_cases hl:i<σ.length
  ·simp[hl]
  ·simp[hl]
 ·simp[h]
section
variable {K:PySem.W.Frag} {G0 H0 G H G' H':Hp} {ρ:Ev} {σ:St}
theorem cF.put{i:Nat}{v:V}{r:R}(E:cF K G0 H0 ρ σ G H)(x:Ext G H G' H')(rr:de K G' H' H v r):cF K G0 H0 (ρ.set i r.sl) (σ.set i (some v)) G' H':=by
 have E':=E.ext x;have hl:=E.len;have gs:∀j s,gt (ρ.set i r.sl) j=s->(i=j/\j<ρ.length/\s=r.sl)\/(¬(i=j/\j<ρ.length)/\gt ρ j=s):=fun j s e=>by
  rw[rC] at e;by_cases h:i=j/\j<ρ.length
  ·rw[if_pos h] at e;exact .inl ⟨h.1,h.2,e.symm⟩
  ·rw[if_neg h] at e;exact .inr ⟨h,e⟩
 refine⟨E'.e,by simp[E.len],fun j d h=>?_,fun j ds h=>?_,fun j k ds es lY h1 h2=>?_,?_⟩
 ·rcases gs j _ h with⟨h1,h2,h3⟩ | ⟨h1,h2⟩
  ·cases r with
   | ow=>cases h3
   | ov=>cases h3
   | fz d'=>
    cases h3;exact⟨v,by rw[nW,if_pos ⟨h1,by omega⟩],rr⟩
  ·obtain⟨u,hu,ru⟩:=E'.fz j d h2;exact⟨u,by rw[nW,if_neg (by rw[hl];exact h1)];exact hu,ru⟩
 ·rcases gs j _ h with⟨h1,h2,h3⟩ | ⟨h1,h2⟩
  ·cases r with
   | fz=>cases h3
   | ov=>cases h3
   | ow wC=>
    cases h3;obtain⟨p,xs,rfl,a1,a2,a3,a4⟩:=rr;exact⟨p,xs,by rw[nW,if_pos ⟨h1,by omega⟩],a3,a2,E.e.h.free a1,a4⟩
  ·obtain⟨p,xs,b1,b2,b3,b4,b5⟩:=E'.ow j ds h2;exact⟨p,xs,by rw[nW,if_neg (by rw[hl];exact h1)];exact b1,b2,b3,b4,b5⟩
 ·have old:∀{j:Nat} {ds:List D},gt ρ j=.ow ds->∀es,r=.ow es->σ[j]?≠some (some v):=fun{j ds} h es e z=>by
   subst e;obtain⟨p,xs,rfl,a1,a2,a3,a4⟩:=rr;obtain⟨p',nD,b1,b2,b3,b4,b5⟩:=E.ow j ds h;rw[b1] at z;cases z;rw[a1] at b2;cases b2
  rcases gs j _ h1 with⟨c1,c2,c3⟩ | ⟨c1,c2⟩
  ·rcases gs k _ h2 with⟨d1,d2,d3⟩ | ⟨d1,d2⟩
   ·exact absurd (c1.symm.trans d1) lY
   ·rw[nW,if_pos ⟨c1,by omega⟩,nW,if_neg (by rw[hl];exact d1)];cases r with
    | fz=>cases c3
    | ov=>cases c3
    | ow gO=>exact fun z=>old d2 gO rfl z.symm
  ·rcases gs k _ h2 with⟨d1,d2,d3⟩ | ⟨d1,d2⟩
   ·rw[nW,if_neg (by rw[hl];exact c1),nW,if_pos ⟨d1,by omega⟩];cases r with
    | fz=>cases d3
    | ov=>cases d3
    | ow gO=>exact old c2 gO rfl
   ·rw[nW,if_neg (by rw[hl];exact c1),nW,if_neg (by rw[hl];exact d1)];exact E.dj j k ds es lY c2 d2
 ·obtain⟨own,o1,o2⟩:=E.on;have JR:∀j,¬(i=j/\j<ρ.length)->(σ.set i (some v))[j]?=σ[j]?:=fun j h=>by rw[nW,if_neg (by rw[hl];exact h)]
  have gen:∀L:List Addr,(∀q∈L,H q=none)->(∀j ds p,i=j->j<ρ.length->r.sl=.ow ds->v=.ref p->p∈L)->
    (∀j o,i=j->j<ρ.length->r.sl=.ov o->∃p fp,v=.ref p/\(p::fp).Nodup/\gJ K G' H' p fp o/\∀q∈p::fp,G' q=none/\q∈L)->
    ∃own:Addr->Option Nat,(∀j ds p,gt (ρ.set i r.sl) j=.ow ds->(σ.set i (some v))[j]?=some (some (.ref p))->own p=some j)/\∀j o,gt (ρ.set i r.sl) j=.ov o->∃p fp,(σ.set i (some v))[j]?=some (some (.ref p))/\(p::fp).Nodup/\gJ K G' H' p fp o/\∀q∈p::fp,G' q=none/\H0 q=none/\own q=some j:=by
   intro L hL hw ho;refine⟨fun q=>if q∈L then some i else own q,fun j ds p h hp=>?_,fun j o h=>?_⟩
   ·rcases gs j _ h with⟨h1,h2,h3⟩ | ⟨h1,h2⟩
    ·rw[nW,if_pos ⟨h1,by omega⟩] at hp;have hv:v=.ref p:=by injection hp with hp;injection hp
     dsimp only;rw[if_pos (hw j ds p h1 h2 h3.symm hv),h1]
    ·rw[JR j h1] at hp;obtain⟨p',nD,b1,b2,_⟩:=E.ow j ds h2;have eP:p∉L:=fun z=>by
      rw[hp] at b1;cases b1;rw[hL p z] at b2;cases b2
     dsimp only;rw[if_neg eP];exact o1 j ds p h2 hp
   ·rcases gs j _ h with⟨h1,h2,h3⟩ | ⟨h1,h2⟩
    ·obtain⟨p,fp,rfl,c1,c2,c3⟩:=ho j o h1 h2 h3.symm;refine⟨p,fp,by rw[nW,if_pos ⟨h1,by omega⟩],c1,c2,fun q hq=>⟨(c3 q hq).1,E.e.h.free (hL q (c3 q hq).2),?_⟩⟩;dsimp only;rw[if_pos (c3 q hq).2,h1]
    ·obtain⟨p,fp,b1,b2,b3,b4⟩:=o2 j o h2;refine⟨p,fp,by rw[JR j h1];exact b1,b2,b3.mono x.g fun q _ u e=>x.h q u e,fun q hq=>⟨x.n q (b4 q hq).1 (b3.here q hq),(b4 q hq).2.1,?_⟩⟩;dsimp only;rw[if_neg (fun z=>b3.here q hq (hL q z))];exact(b4 q hq).2.2
  cases r with
  | fz d=>exact gen [] (fun q hq=>by cases hq) (fun j ds p _ _ e=>by cases e) (fun j o _ _ e=>by cases e)
  | ow wC=>
   obtain⟨p,xs,rfl,a1,a2,a3,a4⟩:=rr;refine gen [p] (fun q hq=>?_) (fun j ds p' _ _ e e2=>?_) (fun j o _ _ e=>by cases e)
   ·simp only[aO] at hq;subst hq;exact a1
   ·cases e2;simp
  | ov o'=>
   obtain⟨p,fp,rfl,a1,a2,a3⟩:=rr;refine gen (p::fp) (fun q hq=>(a3 q hq).1) (fun j ds p' _ _ e=>by cases e) (fun j o _ _ e=>?_);cases e;exact⟨p,fp,rfl,a1,a2,fun q hq=>⟨(a3 q hq).2,hq⟩⟩
noncomputable def jL(i:Nat)(ρ:Ev):Ev:=match gt ρ i with
 | .ow ds=>ρ.set i (.fz (.lst ds))
 | .ov o=>ρ.set i (.fz o.val)
 | _=>ρ
theorem vq{ρ:Ev}{i:Nat}{s:Sl}(h:gt ρ i=s)(hs:s≠.un):i<ρ.length:=by
 induction ρ generalizing i with
 | nil=>simp[gt] at h;exact absurd h.symm hs
 | cons a r ih=>
  cases i with
  | zero=>simp
  | succ i=>simp only[gt] at h;have:=ih h;simp;omega
theorem b9.Eh{K:PySem.W.Frag}{G H:Hp}:∀{qs:List Addr} {cg:List (List D)},b9 K G H qs cg->∀q∈qs,∃zs,H q=some (.lst zs)
 | [],[],_,q,hq=>by cases hq
 | p::qs,ds::cg,h,q,hq=>by
  simp only[b9] at h;rcases ah.mp hq with rfl | hq
  ·exact⟨_,h.1.choose_spec.1⟩
  ·exact b9.Eh h.2 q hq
 | [],_::_,h,_,_=>by simp only[b9] at h
 | _::_,[],h,_,_=>by simp only[b9] at h
theorem cF.qe(i:Nat)(E:cF K G0 H0 ρ σ G H):∃L:List Addr,(∀q∈L,G q=none)/\cF K G0 H0 (jL i ρ) σ (nV G H L) H/\(((∀o,gt ρ i=.ov o->(∃cI,o=.dc cI)\/(∃cg,o=.ll cg)\/∃a cg,o=.li a cg)->∀q∈L,H q≠none/\∀xs,¬Rd H q (.tup xs)))/\∀o p,gt ρ i=.ov o->σ[i]?=some (some (.ref p))->p∈L:=by
 unfold jL;split
 ·rename_i ds hg;obtain⟨p,xs,h1,h2,h3,h4,h5⟩:=E.ow i ds hg;have eR:i<ρ.length:=vq hg (by simp);have hs:bL G (upd G p (.lst xs)):=sZ h3;have gs:∀j s,gt (ρ.set i (.fz (.lst ds))) j=s->(i=j/\s=.fz (.lst ds))\/(i≠j/\gt ρ j=s):=fun j s e=>by
   rw[rC] at e;by_cases h:i=j
   ·subst h;rw[if_pos ⟨rfl,eR⟩] at e;exact .inl ⟨rfl,e.symm⟩
   ·rw[if_neg (fun z=>h z.1)] at e;exact .inr ⟨h,e⟩
  have ep:nV G H [p]=upd G p (.lst xs):=by
   funext a
   by_cases ha:a=p
   ·subst ha;rw[gB,pA (by simp)];exact h2
   ·rw[cN ha,pF (by simpa using ha)]
  refine⟨[p],fun q hq=>?_,?_,fun _ q hq=>by
   simp only[aO] at hq;rw[hq]
   exact⟨(by rw[h2];exact nofun),fun nD e=>by rcases e with e | ⟨_,e⟩<;>(rw[h2] at e;cases e)⟩,fun o p z=>by rw[hg] at z;cases z⟩
  ·simp only[aO] at hq;subst hq;exact h3
  rw[ep];refine⟨⟨E.e.g.trans hs,E.e.h,fun b o e=>?_,fun q q1 q2=>?_⟩,by simp[E.len],fun j d h=>?_,fun j es h=>?_,fun j k es fs lY a1 a2=>?_,?_⟩
  ·by_cases hb:b=p
   ·subst hb;rw[gB] at e;rw[h2];exact e
   ·rw[cN hb] at e;exact E.e.s b o e
  ·rw[cN (fun z=>q2 (by rw[z];exact h4))];exact E.e.n q q1 q2
  ·rcases gs j _ h with⟨e,e2⟩ | ⟨e,e2⟩
   ·subst e;cases e2;exact⟨_,h1,by simp only[Rep];exact⟨p,xs,rfl,j6.of gB,h5.mono hs⟩⟩
   ·obtain⟨u,u1,u2⟩:=E.fz j d e2;exact⟨u,u1,u2.mono hs⟩
  ·rcases gs j _ h with⟨e,e2⟩ | ⟨e,e2⟩
   ·cases e2
   ·obtain⟨p',nD,b1,b2,b3,b4,b5⟩:=E.ow j es e2;have eP:p'≠p:=fun z=>by
     subst z;exact E.dj i j ds es e hg e2 (by rw[h1,b1])
    exact⟨p',nD,b1,b2,by rw[cN eP];exact b3,b4,b5.mono hs⟩
  ·rcases gs j _ a1 with⟨_,e2⟩ | ⟨e,e2⟩
   ·cases e2
   ·rcases gs k _ a2 with⟨_,e4⟩ | ⟨e3,e4⟩
    ·cases e4
    ·exact E.dj j k es fs lY e2 e4
  ·obtain⟨own,o1,o2⟩:=E.on;refine⟨own,fun j es p' h hp=>?_,fun j o h=>?_⟩
   ·rcases gs j _ h with⟨_,e2⟩ | ⟨_,e2⟩
    ·cases e2
    ·exact o1 j es p' e2 hp
   ·rcases gs j _ h with⟨_,e2⟩ | ⟨e,e2⟩
    ·cases e2
    ·obtain⟨p',fp,b1,b2,b3,b4⟩:=o2 j o e2;refine⟨p',fp,b1,b2,b3.mono hs fun q _ u e=>e,fun q hq=>⟨?_,(b4 q hq).2⟩⟩;rw[cN fun z=>?_]
     ·exact(b4 q hq).1
     ·have z1:=(b4 q hq).2.2;rw[z,o1 i ds p hg h1] at z1;injection z1 with z1
      exact e z1
 ·rename_i o hg;obtain⟨own,o1,o2⟩:=E.on;obtain⟨p,fp,h1,h2,h3,h4⟩:=o2 i o hg;have eR:i<ρ.length:=vq hg (by simp);have hn:∀q∈p::fp,G q=none:=fun q hq=>(h4 q hq).1
  have hs:bL G (nV G H (p::fp)):=x9 hn;have gs:∀j s,gt (ρ.set i (.fz o.val)) j=s->(i=j/\s=.fz o.val)\/(i≠j/\gt ρ j=s):=fun j s e=>by
   rw[rC] at e;by_cases h:i=j
   ·subst h;rw[if_pos ⟨rfl,eR⟩] at e;exact .inl ⟨rfl,e.symm⟩
   ·rw[if_neg (fun z=>h z.1)] at e;exact .inr ⟨h,e⟩
  suffices ze:cF K G0 H0 (ρ.set i (.fz o.val)) σ (nV G H (p::fp)) H from⟨p::fp,hn,ze,fun hd q hq=>by
   rcases hd o hg with⟨cI,rfl⟩ | ⟨cg,rfl⟩ | ⟨a,cg,rfl⟩
   ·obtain⟨rfl,ks,ep,h5,_⟩:=h3;simp only[aO] at hq;rw[hq];exact⟨(by rw[h5];exact nofun),fun nD e=>by rcases e with e | ⟨_,e⟩<;>(rw[h5] at e;cases e)⟩
   ·obtain⟨zs,h5⟩:∃zs,H q=some (.lst zs):=by
     rcases ah.mp hq with rfl | hq
     ·exact⟨_,h3.1⟩
     ·exact b9.Eh h3.2 q hq
    exact⟨(by rw[h5];exact nofun),fun nD e=>by rcases e with e | ⟨_,e⟩<;>(rw[h5] at e;cases e)⟩
   ·obtain⟨zs,h5⟩:∃zs,H q=some (.lst zs):=by
     rcases ah.mp hq with rfl | hq
     ·exact⟨_,h3.2.1⟩
     ·exact b9.Eh h3.2.2 q hq
    exact⟨(by rw[h5];exact nofun),fun nD e=>by rcases e with e | ⟨_,e⟩<;>(rw[h5] at e;cases e)⟩,fun o' p' _ e=>by rw[h1] at e;cases e;simp⟩
  refine⟨⟨E.e.g.trans hs,E.e.h,fun b u e=>?_,fun q q1 q2=>?_⟩,by simp[E.len],fun j d h=>?_,fun j es h=>?_,fun j k es fs lY a1 a2=>?_,own,fun j es p' h hp=>?_,fun j o' h=>?_⟩
  ·by_cases hb:b∈p::fp
   ·rw[pA hb] at e;exact e
   ·rw[pF hb] at e;exact E.e.s b u e
  ·rw[pF (fun z=>q2 (h4 q z).2.1)];exact E.e.n q q1 q2
  ·rcases gs j _ h with⟨e,e2⟩ | ⟨e,e2⟩
   ·subst e;cases e2;exact⟨_,h1,h3.freeze hn⟩
   ·obtain⟨u,u1,u2⟩:=E.fz j d e2;exact⟨u,u1,u2.mono hs⟩
  ·rcases gs j _ h with⟨e,e2⟩ | ⟨e,e2⟩
   ·cases e2
   ·obtain⟨p',nD,b1,b2,b3,b4,b5⟩:=E.ow j es e2;refine⟨p',nD,b1,b2,?_,b4,b5.mono hs⟩;rw[pF fun z=>?_]
    ·exact b3
    ·have z1:=(h4 p' z).2.2;rw[o1 j es p' e2 b1] at z1;injection z1 with z1
     exact e z1.symm
  ·rcases gs j _ a1 with⟨_,e2⟩ | ⟨e,e2⟩
   ·cases e2
   ·rcases gs k _ a2 with⟨_,e4⟩ | ⟨e3,e4⟩
    ·cases e4
    ·exact E.dj j k es fs lY e2 e4
  ·rcases gs j _ h with⟨_,e2⟩ | ⟨_,e2⟩
   ·cases e2
   ·exact o1 j es p' e2 hp
  ·rcases gs j _ h with⟨_,e2⟩ | ⟨e,e2⟩
   ·cases e2
   ·obtain⟨p',lJ,b1,b2,b3,b4⟩:=o2 j o' e2;refine⟨p',lJ,b1,b2,b3.mono hs fun q _ u e=>e,fun q hq=>⟨?_,(b4 q hq).2⟩⟩;rw[pF fun z=>?_]
    ·exact(b4 q hq).1
    ·have z1:=(b4 q hq).2.2;rw[(h4 q z).2.2] at z1;injection z1 with z1
     exact e z1
 ·rename_i VP T4;have ep:nV G H []=G:=by funext a;exact pF (by simp)
  exact⟨[],fun q hq=>(by cases hq),by rw[ep];exact E,fun _ q hq=>(by cases hq),fun o p z=>(T4 o z).elim⟩
theorem cF.k6(i:Nat)(E:cF K G0 H0 ρ σ G H):∃L:List Addr,(∀q∈L,G q=none)/\cF K G0 H0 (jL i ρ) σ (nV G H L) H/\((∀o,gt ρ i=.ov o->(∃cI,o=.dc cI)\/(∃cg,o=.ll cg)\/∃a cg,o=.li a cg)->∀q∈L,H q≠none/\∀xs,¬Rd H q (.tup xs)):=
 let⟨L,a,b,c,_⟩:=E.qe i
 ⟨L,a,b,c⟩
theorem cF.freeze(i:Nat)(E:cF K G0 H0 ρ σ G H):∃G',cF K G0 H0 (jL i ρ) σ G' H/\bL G G':=
 let⟨L,hL,E',_⟩:=E.k6 i
 ⟨_,E',x9 hL⟩
theorem cF.change{i:Nat}{ds wC:List D}{p:Addr}{nD:List V}(E:cF K G0 H0 ρ σ G H)(hg:gt ρ i=.ow ds)(h1:σ[i]?=some (some (.ref p)))(hr:bB K G nD wC) :
  cF K G0 H0 (ρ.set i (.ow wC)) σ G (upd H p (.lst nD)):=by
 obtain⟨p',VM,b1,b2,b3,b4,b5⟩:=E.ow i ds hg;rw[h1] at b1;cases b1;have eR:i<ρ.length:=vq hg (by simp);have gs:∀j s,gt (ρ.set i (.ow wC)) j=s->(i=j/\s=.ow wC)\/(i≠j/\gt ρ j=s):=fun j s e=>by
  rw[rC] at e;by_cases h:i=j
  ·subst h;rw[if_pos ⟨rfl,eR⟩] at e;exact .inl ⟨rfl,e.symm⟩
  ·rw[if_neg (fun z=>h z.1)] at e;exact .inr ⟨h,e⟩
 have hG:bL G (upd H p (.lst nD)):=fun b o e=>by rw[cN (gX e b3)];exact E.e.s b o e
 refine⟨⟨E.e.g,fun b o e=>by rw[cN (gX e b4)];exact E.e.h b o e,hG,E.e.n⟩,by simp[E.len],fun j d h=>?_,fun j es h=>?_,fun j k es fs lY a1 a2=>?_,?_⟩
 ·rcases gs j _ h with⟨_,e2⟩ | ⟨e,e2⟩
  ·cases e2
  ·exact E.fz j d e2
 ·rcases gs j _ h with⟨e,e2⟩ | ⟨e,e2⟩
  ·subst e;cases e2;exact⟨p,nD,h1,gB,b3,b4,hr⟩
  ·obtain⟨p',DO,c1,c2,c3,c4,c5⟩:=E.ow j es e2;have eP:p'≠p:=fun z=>by
    subst z;exact E.dj i j ds es e hg e2 (by rw[h1,c1])
   exact⟨p',DO,c1,by rw[cN eP];exact c2,c3,c4,c5⟩
 ·rcases gs j _ a1 with⟨e,e2⟩ | ⟨e,e2⟩
  ·subst e;rcases gs k _ a2 with⟨e3,e4⟩ | ⟨e3,e4⟩
   ·exact absurd e3 lY
   ·exact E.dj i k ds fs lY hg e4
  ·rcases gs k _ a2 with⟨e3,e4⟩ | ⟨e3,e4⟩
   ·subst e3;exact E.dj j i es ds lY e2 hg
   ·exact E.dj j k es fs lY e2 e4
 ·obtain⟨own,o1,o2⟩:=E.on;refine⟨own,fun j es p' h hp=>?_,fun j o h=>?_⟩
  ·rcases gs j _ h with⟨e,e2⟩ | ⟨_,e2⟩
   ·subst e;exact o1 i ds p' hg hp
   ·exact o1 j es p' e2 hp
  ·rcases gs j _ h with⟨_,e2⟩ | ⟨e,e2⟩
   ·cases e2
   ·obtain⟨p',fp,c1,c2,c3,c4⟩:=o2 j o e2;refine⟨p',fp,c1,c2,c3.mono (bL.refl _) fun q hq u e3=>?_,c4⟩;rw[cN fun z=>?_]
    ·exact e3
    ·have z1:=(c4 q hq).2.2;rw[z,o1 i ds p hg h1] at z1;injection z1 with z1
     exact e z1
theorem cF.sA{i:Nat}{o o':OV}{p:Addr}(E:cF K G0 H0 ρ σ G H)(hg:gt ρ i=.ov o)(h1:σ[i]?=some (some (.ref p)))
  (hc:∀fp,(p::fp).Nodup->gJ K G H p fp o->∃lJ,(p::lJ).Nodup/\gJ K G H' p lJ o'/\(∀q∈p::lJ,q∈p::fp\/H q=none)/\∀b,b∉p::fp->H b≠none->H' b=H b) :
  cF K G0 H0 (ρ.set i (.ov o')) σ G H':=by
 obtain⟨own,o1,o2⟩:=E.on;obtain⟨p',fp,b1,b2,b3,b4⟩:=o2 i o hg;rw[h1] at b1;cases b1;obtain⟨lJ,c1,c2,c3,c4⟩:=hc fp b2 b3;have eR:i<ρ.length:=vq hg (by simp);have gs:∀j s,gt (ρ.set i (.ov o')) j=s->(i=j/\s=.ov o')\/(i≠j/\gt ρ j=s):=fun j s e=>by
  rw[rC] at e;by_cases h:i=j
  ·subst h;rw[if_pos ⟨rfl,eR⟩] at e;exact .inl ⟨rfl,e.symm⟩
  ·rw[if_neg (fun z=>h z.1)] at e;exact .inr ⟨h,e⟩
 have hk:∀(F:Hp),(∀q∈p::fp,F q=none)->bL F H->bL F H':=fun F hF s b u e=>by
  have hb:b∉p::fp:=fun z=>by rw[hF b z] at e;cases e
  rw[c4 b hb (by rw[s b u e];exact nofun)];exact s b u e
 refine⟨⟨E.e.g,hk H0 (fun q hq=>(b4 q hq).2.1) E.e.h,hk G (fun q hq=>(b4 q hq).1) E.e.s,E.e.n⟩,by simp[E.len],fun j d h=>?_,fun j es h=>?_,fun j k es fs lY a1 a2=>?_,fun q=>if q∈p::lJ then some i else own q,fun j es p' h hp=>?_,fun j D5 h=>?_⟩
 ·rcases gs j _ h with⟨_,e2⟩ | ⟨e,e2⟩
  ·cases e2
  ·exact E.fz j d e2
 ·rcases gs j _ h with⟨_,e2⟩ | ⟨e,e2⟩
  ·cases e2
  ·obtain⟨p',xs,d1,d2,d3,d4,d5⟩:=E.ow j es e2;refine⟨p',xs,d1,?_,d3,d4,d5⟩;rw[c4 p' (fun z=>?_) (by rw[d2];exact nofun)]
   ·exact d2
   ·have z1:=(b4 p' z).2.2;rw[o1 j es p' e2 d1] at z1;injection z1 with z1
    exact e z1.symm
 ·rcases gs j _ a1 with⟨_,e2⟩ | ⟨e,e2⟩
  ·cases e2
  ·rcases gs k _ a2 with⟨_,e4⟩ | ⟨e3,e4⟩
   ·cases e4
   ·exact E.dj j k es fs lY e2 e4
 ·rcases gs j _ h with⟨_,e2⟩ | ⟨e,e2⟩
  ·cases e2
  ·have w:=o1 j es p' e2 hp;obtain⟨p2,xs,d1,d2,_⟩:=E.ow j es e2;rw[hp] at d1;cases d1;dsimp only;rw[if_neg fun z=>?_]
   ·exact w
   ·rcases c3 p' z with z | z
    ·have z1:=(b4 p' z).2.2;rw[w] at z1;injection z1 with z1
     exact e z1.symm
    ·rw[z] at d2;cases d2
 ·rcases gs j _ h with⟨e,e2⟩ | ⟨e,e2⟩
  ·subst e;cases e2;refine⟨p,lJ,h1,c1,c2,fun q hq=>?_⟩;dsimp only;rw[if_pos hq];rcases c3 q hq with z | z
   ·exact⟨(b4 q z).1,(b4 q z).2.1,rfl⟩
   ·exact⟨E.e.s.free z,E.e.h.free z,rfl⟩
  ·obtain⟨p2,KH,d1,d2,d3,d4⟩:=o2 j D5 e2;have r8:∀q∈p2::KH,q∉p::fp:=fun q hq z=>by
    have z1:=(b4 q z).2.2;rw[(d4 q hq).2.2] at z1;injection z1 with z1
    exact e z1.symm
   refine⟨p2,KH,d1,d2,d3.mono (bL.refl _) fun q hq u e3=>?_,fun q hq=>⟨(d4 q hq).1,(d4 q hq).2.1,?_⟩⟩
   ·rw[c4 q (r8 q hq) (by rw[e3];exact nofun)];exact e3
   ·dsimp only;rw[if_neg fun z=>?_]
    ·exact(d4 q hq).2.2
    ·rcases c3 q z with z | z
     ·exact r8 q hq z
     ·exact d3.here q hq z
theorem cF.weak{ρ':Ev}(E:cF K G0 H0 ρ σ G H)(hl:ρ'.length=ρ.length)(w:∀i,gt ρ' i=.un\/gt ρ' i=gt ρ i):cF K G0 H0 ρ' σ G H:=by
 have g:∀i s,gt ρ' i=s->s≠.un->gt ρ i=s:=fun i s e n=>by
  rcases w i with h | h
  ·exact absurd (e.symm.trans h) n
  ·rw[<-h];exact e
 exact⟨E.e,by rw[hl];exact E.len,fun i d h=>E.fz i d (g i _ h (by simp)),fun i d h=>E.ow i d (g i _ h (by simp)),fun i j ds es ot h1 h2=>E.dj i j ds es ot (g i _ h1 (by simp)) (g j _ h2 (by simp)),let⟨own,o1,o2⟩:=E.on;⟨own,fun i ds p h=>o1 i ds p (g i _ h (by simp)),fun i o h=>o2 i o (g i _ h (by simp))⟩⟩
end
section
variable {X:Cx} {pos:Pos} {e:Expr} {te:TD}
def b8(t u:TX):TX:=fun D ρ=>t { D with nx:=u D } ρ
def fb:TX:=fun D ρ=>D.nx ρ
theorem fM:md X [] fb:=⟨_,Hr,fun ρ σ G0 H0 G H D E k h g=>g.nx ρ σ G H (bL.refl _) k h⟩
theorem ck{st:Stmt}{jo:List Stmt}{t u:TX}(h1:PX X st t)(h2:md X jo u):md X (st::jo) (b8 t u):=by
 obtain⟨t1,p1,q1⟩:=h1;obtain⟨t2,p2,q2⟩:=h2;refine⟨_,xN p1 p2,fun ρ σ G0 H0 G H D E k h g=>q1 ρ σ G0 H0 G H _ _ k h ⟨fun ρ' cc G' H' s' k' h'=>q2 ρ' cc G0 H0 G' H' D E k' h' (g.shift s'),g.rt,g.bk,g.ct⟩⟩
theorem cX{st:Stmt}{t:TX}(h1:PX X st t):md X [st] t:=by
 obtain⟨t1,p1,q1⟩:=h1;exact⟨_,Ar p1,q1⟩
theorem vD(i:Nat){jo:List Stmt}{t:TX}(h:md X jo t):md X jo (fun D ρ=>t D (jL i ρ)):=by
 obtain⟨t1,p1,q1⟩:=h;refine⟨_,p1,fun ρ σ G0 H0 G H D E k h g=>?_⟩;obtain⟨G',k',s'⟩:=k.freeze i;exact q1 _ σ G0 H0 G' H D E k' h (g.shift s')
def ft(te:TD):TX:=fun D ρ=>te ρ D.rt
theorem fP(h:PD X e te):PX X (.Return (some e) pos) (ft te):=by
 obtain⟨t,p,q⟩:=h;exact⟨_,Ae p,fun ρ σ G0 H0 G H D E k h g=>q ρ σ G0 H0 G H _ _ k h fun v H' r G' x rr hq=>g.rt v H' r G' (k.e.trans x) (rr.ef k.e.h) hq⟩
def ue(i:Nat):TX:=fun D ρ=>match gt ρ i with
 | .ow ds=>D.rt (.ow ds)
 | _=>False
theorem Cz(i:Nat){x:Str}{p':Pos}(hN:X.N[i]?=some x:=by rfl)(hv:l8 X.env.scope x:=by first | exact Or.inl rfl | exact Or.inr (Or.inl rfl) | exact Or.inr (Or.inr rfl))(hd:(x==("__debug__":Str))=false:=by decide)
  (iO:(x==("__classdict__":Str))=false:=by decide):PX X (.Return (some (.Name x p')) pos) (ue i):=by
 refine⟨_,Ae (oR hN hv hd iO),fun ρ σ G0 H0 G H D E k h g=>?_⟩;unfold ue at h;split at h
 ·rename_i ds hg;obtain⟨p,xs,h1,h2,h3,h4,h5⟩:=k.ow i ds hg;exact⟨_,h1,g.rt _ H (.ow ds) G k.e ⟨p,xs,rfl,h4,h3,h2,h5⟩ h⟩
 ·exact h.elim
def vp(te:TD):TX:=fun D ρ=>te ρ fun _=>D.nx ρ
def eO(c:iP)(t u:TX):TX:=fun D ρ=>c ρ fun b=>if b=true then t D ρ else u D ρ
theorem f6{c:Expr}{a b:List Stmt}{tc:iP}{t u:TX}(hc:PB X c tc)(ha:md X a t)(hb:md X b u):PX X (.If c a b pos) (eO tc t u):=by
 obtain⟨t0,p0,q0⟩:=hc;obtain⟨t1,p1,q1⟩:=ha;obtain⟨t2,p2,q2⟩:=hb;refine⟨_,B2 p0 p1 p2,fun ρ σ G0 H0 G H D E k h g=>q0 ρ σ G0 H0 G H _ _ k h fun b H' G' x hq=>?_⟩;cases b with
 | true=>rw[if_pos rfl] at hq ⊢;exact q1 ρ σ G0 H0 G' H' D E (k.ext x) hq (g.shift x.g)
 | false=>rw[if_neg az] at hq ⊢;exact q2 ρ σ G0 H0 G' H' D E (k.ext x) hq (g.shift x.g)
def mH(i:Nat)(te:TD):TX:=fun D ρ=>te ρ fun r=>D.nx (ρ.set i r.sl)
theorem qC(i:Nat){x:Str}{pos':Pos}(he:PD X e te)(hN:X.N.Nodup:=by assumption)(hi:X.N[i]?=some x:=by rfl)(hx:Loc X.env.scope x:=by first | exact Or.inl rfl | exact Or.inr rfl)(hs:swapsWith e (some (.Name x pos')) pos.line X.env=pure false:=by rfl)(hf:X.fn x=true\/X.env.scope.names.lookup x=some .local:=by first | exact .inl rfl | exact .inr rfl | assumption) :
  PX X (.Assign [.Name x pos'] e pos) (mH i te):=by
 obtain⟨t,p,q⟩:=he;exact⟨_,Gx hN hi hx p hs hf,fun ρ σ G0 H0 G H D E k h g=>q ρ σ G0 H0 G H _ _ k h fun v H' r G' x rr hq=>g.nx _ _ G' H' x.g (k.put x rr) hq⟩
def df(i:Nat)(te:TD):TX:=fun D ρ=>te ρ fun r=>D.nx (ρ.set i (.fz r.val))
theorem dN(i:Nat){x:Str}{pos':Pos}(he:PD X e te)(hN:X.N.Nodup:=by assumption)(hi:X.N[i]?=some x:=by rfl)(hx:Loc X.env.scope x:=by first | exact Or.inl rfl | exact Or.inr rfl)(hs:swapsWith e (some (.Name x pos')) pos.line X.env=pure false:=by rfl)(hf:X.fn x=true\/X.env.scope.names.lookup x=some .local:=by first | exact .inl rfl | exact .inr rfl | assumption) :
  PX X (.Assign [.Name x pos'] e pos) (df i te):=by
 obtain⟨t,p,q⟩:=he;refine⟨_,Gx hN hi hx p hs hf,fun ρ σ G0 H0 G H D E k h g=>q ρ σ G0 H0 G H _ _ k h fun v H' r G' x rr hq=>?_⟩;obtain⟨G2,x2,rv,_⟩:=rr.freeze x;exact g.nx _ _ G2 H' x2.g (k.put x2 (r:=.fz r.val) rv) hq
def kG(i:Nat)(te:TD):TX:=fun D ρ=>match gt ρ i with
 | .ow ds=>te ρ fun r=>ds.length<sizeLine/\D.nx (ρ.set i (.ow (ds++[r.val])))
 | _=>False
theorem nz(i:Nat){x:Str}{p1 p2 pos':Pos}(he:PD X e te)(hN:X.N[i]?=some x:=by rfl)(hv:l8 X.env.scope x:=by first | exact Or.inl rfl | exact Or.inr (Or.inl rfl) | exact Or.inr (Or.inr rfl))(hd:(x==("__debug__":Str))=false:=by decide)
  (iO:(x==("__classdict__":Str))=false:=by decide) (gI:starEach [e] X.env=(false,eval e X.env)::starEach [] X.env:=by rfl)
  (hb:∀{ta:TE} {t:TA},PE X (.Name x p1) ta->PA X [e] t->PE X (.Call (.Attribute (.Name x p1) "append" p2) [e] [] pos') (DS X.K "list" CC ta t):=by intro ta t h1 h2;exact BV PySem.F.plainAttrs_list PySem.F.slot_list_append PySem.F.type_list_append C7 h1 h2) :
  PX X (.Expr (.Call (.Attribute (.Name x p1) "append" p2) [e] [] pos') pos) (kG i te):=by
 obtain⟨t,p,q⟩:=he;refine⟨_,Aq (hb (oR hN hv hd iO) (mK p pE gI)),fun ρ σ G0 H0 G H D E k h g=>?_⟩;unfold kG at h;split at h
 ·rename_i ds hg;obtain⟨a,xs,h1,h2,h3,h4,h5⟩:=k.ow i ds hg;refine⟨_,h1,.inl ⟨rfl,xs,gc.of h2⟩,?_⟩;refine q ρ σ G0 H0 G H _ _ k h fun v H' r G' x1 rr hq=>?_
  obtain⟨G2,x2,rv,_⟩:=rr.freeze x1;have k2:=k.ext x2;refine⟨a,xs,v,rfl,rfl,x2.h _ _ h2,by rw[h5.length];exact hq.1,?_⟩;exact g.nx _ _ G2 _ x2.g (k2.change hg h1 ((h5.mono x2.g).append (bB.cons rv bB.nil))) hq.2
 ·exact h.elim
end
end L2
namespace L2
open PySem PySem.Spec PyProof.Rows
section
variable {X:Cx} {pos:Pos} {tg:Expr}
noncomputable abbrev ij:=D->Ev->(Ev->Prop)->Prop
noncomputable abbrev nU:=List D->Ev->(Ev->Prop)->Prop
def qo(X:Cx)(tg:Expr)(g:ij):Prop:=∃gg,PG X tg gg/\∀(ρ:Ev) (σ:St) (G0 H0 G H:Hp) (d:D) (v:V) (Q:Ev->Prop) (P:St->Hp->Prop),cF X.K G0 H0 ρ σ G H->Rep X.K G v d->g d ρ Q->
 (∀ρ' cc G' H',cF X.K G0 H0 ρ' cc G' H'->Ext G H G' H'->Q ρ'->P cc H')->gg v σ H P
def xi(X:Cx)(Tq:List Expr)(g:nU):Prop:=∃gg,wH X Tq gg/\∀(ρ:Ev) (σ:St) (G0 H0 G H:Hp) (ds:List D) (vs:List V) (Q:Ev->Prop) (P:St->Hp->Prop),cF X.K G0 H0 ρ σ G H->bB X.K G vs ds->g ds ρ Q->
 (∀ρ' cc G' H',cF X.K G0 H0 ρ' cc G' H'->Ext G H G' H'->Q ρ'->P cc H')->gg vs σ H P
def dy(i:Nat):ij:=fun d ρ Q=>Q (ρ.set i (.fz d))
theorem d8(i:Nat){x:Str}(hN:X.N.Nodup:=by assumption)(hi:X.N[i]?=some x:=by rfl)(hx:Loc X.env.scope x:=by first | exact Or.inl rfl | exact Or.inr rfl)(hf:X.fn x=true\/X.env.scope.names.lookup x=some .local:=by first | exact .inl rfl | exact .inr rfl | assumption):qo X (.Name x pos) (dy i):=
 ⟨_,Om hN hi hx hf,fun ρ σ G0 H0 G H d v Q P E r h k=>k _ _ G H (E.put (.refl E.e.s) (r:=.fz d) r) (.refl E.e.s) h⟩
noncomputable def jZ:nU:=fun ds ρ Q=>match ds with
 | []=>Q ρ
 | _=>False
noncomputable def fZ(t:ij)(u:nU):nU:=fun ds ρ Q=>match ds with
 | d::r=>t d ρ fun ρ'=>u r ρ' Q
 | []=>False
theorem oS:xi X [] jZ:=by
 refine⟨_,Ol,fun ρ σ G0 H0 G H ds vs Q P E r h k=>?_⟩;unfold jZ at h;split at h
 ·cases vs with
  | nil=>exact⟨rfl,k _ _ G H E (.refl E.e.s) h⟩
  | cons=>simp only[bB] at r
 ·exact h.elim
theorem iN{e:Expr}{es:List Expr}{t:ij}{u:nU}(h1:qo X e t)(h2:xi X es u)(hs:(assignEach (e::es) X.env).map (·.2)=assign e X.env::(assignEach es X.env).map (·.2):=by rfl):xi X (e::es) (fZ t u):=by
 obtain⟨t1,p1,q1⟩:=h1;obtain⟨t2,p2,q2⟩:=h2;refine⟨_,OI p1 p2 hs,fun ρ σ G0 H0 G H ds vs Q P E r h k=>?_⟩;unfold fZ at h;split at h
 ·cases vs with
  | nil=>simp only[bB] at r
  | cons v vs=>
   simp only[bB] at r;refine⟨v,vs,rfl,q1 ρ σ G0 H0 G H _ v _ _ E r.1 h fun ρ' cc G' H' E' x hq=>?_⟩;exact q2 ρ' cc G0 H0 G' H' _ vs Q P E' (r.2.mono x.g) hq fun dR jB G2 H2 E2 x2 kq=>k dR jB G2 H2 E2 (x.trans x2) kq
 ·exact h.elim
def mG(n:Nat)(t:nU):ij:=fun d ρ Q=>match d with
 | .tup ds=>ds.length=n/\t ds ρ Q
 | _=>False
theorem qD{es:List Expr}{k:Nat}{t:nU}{n:Nat}(hc:X.calm=true)(h:xi X es t)(hn:(assignEach es X.env).length=n:=by rfl)(gI:(assignEach es X.env).findIdx? (·.1)=none:=by rfl):qo X (.Tuple es k pos) (mG n t):=by
 obtain⟨t1,p1,q1⟩:=h;refine⟨_,MD hc p1 hn gI,fun ρ σ G0 H0 G H d v Q P E r h k=>?_⟩;unfold mG at h;split at h
 ·simp only[Rep] at r;obtain⟨a,xs,rfl,hq,rs⟩:=r;exact⟨a,xs,rfl,E.e.s.lV hq,by rw[rs.length];exact h.1,q1 ρ σ G0 H0 G H _ xs Q P E rs h.2 k⟩
 ·exact h.elim
def rg(te:TD)(g:ij):TX:=fun D ρ=>te ρ fun r=>g r.val ρ D.nx
theorem vB{e:Expr}{te:TD}{g:ij}(he:PD X e te)(hg:qo X tg g)(hs:swapsWithSole [tg] e pos.line X.env=pure false:=by rfl)(hw:swappedStores [tg] e X.env=pure none:=by rfl)(h1:(assignEach [tg] X.env).map (·.2)=[assign tg X.env]:=by rfl):PX X (.Assign [tg] e pos) (rg te g):=by
 obtain⟨t,p,q⟩:=he;obtain⟨t2,p2,q2⟩:=hg;refine⟨_,Gy p p2 hs hw h1,fun ρ σ G0 H0 G H D E k h g=>q ρ σ G0 H0 G H _ _ k h fun v H' r G' x rr hq=>?_⟩;obtain⟨G2,x2,rv,_⟩:=rr.freeze x;exact q2 ρ σ G0 H0 G2 H' _ v _ _ (k.ext x2) rv hq fun ρ' cc G' H' E' x' kY=>g.nx ρ' cc G' H' (x2.g.trans x'.g) E' kY
def rf(K:PySem.W.Frag)(J:It)(G:Hp)(ds:List D):Prop:=
 (∀i d G' H',ds[i]?=some d->bL G G'->bL G' H'->J.go i H'/\∀v H2,J.AY i H' v H2->∃G2,Ext G' H' G2 H2/\Rep K G2 v d)/\∀G' H',bL G G'->bL G' H'->J.stop ds.length H'
noncomputable abbrev kQ:=Ev->(List D->Prop)->Prop
def PId(X:Cx)(tg iter:Expr)(wi:kQ):Prop:=∃ww,PI X tg iter ww/\∀(ρ:Ev) (σ:St) (G0 H0 G H:Hp) (Q:List D->Prop) (P:It->Hp->Prop),cF X.K G0 H0 ρ σ G H->wi ρ Q->
 (∀J H' ds G',Ext G H G' H'->rf X.K J G' ds->Q ds->P J H')->ww σ H P
def Ci(d:D)(Q:List D->Prop):Prop:=match d with
 | .lst ds=>Q ds
 | .tup ds=>Q ds
 | .str z=>Q (z.cps.toList.map fun c=>.str ⟨#[c]⟩)
 | _=>False
def iS(te:TD):kQ:=fun ρ Q=>te ρ fun r=>Ci r.val Q
theorem Ql{K:PySem.W.Frag}{G:Hp}{a:Addr}{xs:List V}{ds:List D}(h:j6 K G a xs)(r:bB K G xs ds):rf K (FJ K a) G ds:=by
 refine⟨fun i d G' H' hd s1 s2=>?_,fun G' H' s1 s2=>⟨xs,(s2.gH (s1.gH h)).sq,by rw[r.length];exact aw _⟩⟩;obtain⟨v,hv,rv⟩:=r.get hd;have hs:gc K H' a xs:=(s2.gH (s1.gH h)).sq;refine⟨⟨xs,v,hs,hv⟩,fun u H2 hy=>?_⟩;obtain⟨e,y⟩:=hy;subst e;have:=y xs hs;rw[hv] at this;cases this;exact⟨G',.refl s2,rv.mono s1⟩
theorem O1{K:PySem.W.Frag}{G:Hp}{a:Addr}{xs:List V}{ds:List D}(h:fH K G a xs)(r:bB K G xs ds):rf K (FI K a) G ds:=by
 refine⟨fun i d G' H' hd s1 s2=>?_,fun G' H' s1 s2=>⟨xs,s2.oh (s1.oh h),by rw[r.length];exact aw _⟩⟩;obtain⟨v,hv,rv⟩:=r.get hd;have hs:fH K H' a xs:=s2.oh (s1.oh h);refine⟨⟨xs,v,hs,hv⟩,fun u H2 hy=>?_⟩;obtain⟨e,y⟩:=hy;subst e;have:=y xs hs;rw[hv] at this;cases this;exact⟨G',.refl s2,rv.mono s1⟩
theorem O0{K:PySem.W.Frag}{G:Hp}(z:Str):rf K (BC z) G (z.cps.toList.map fun c=>.str ⟨#[c]⟩):=by
 refine⟨fun i d G' H' hd s1 s2=>?_,fun G' H' s1 s2=>?_⟩
 ·rw[aR] at hd;cases e:z.cps.toList[i]? with
  | none=>rw[e] at hd;cases hd
  | some c=>
   rw[e] at hd;cases hd;have hc:z.cps[i]?=some c:=by simpa using e
   refine⟨(Array.getElem?_eq_some_iff.mp hc).1,fun v H2 hy=>?_⟩;obtain⟨e2,c',pY,rfl⟩:=hy;subst e2;rw[hc] at pY;cases pY;exact⟨G',.refl s2,vG _ _ _⟩
 ·show _=_;simp
theorem QI{K:PySem.W.Frag}{G:Hp}(lo:Int)(n:Nat):rf K (BD lo n) G ((List.range n).map fun(i:Nat)=>.int (lo+i)):=by
 refine⟨fun i d G' H' hd s1 s2=>?_,fun G' H' s1 s2=>?_⟩
 ·rw[aR] at hd;cases e:(List.range n)[i]? with
  | none=>rw[e] at hd;cases hd
  | some c=>
   rw[e] at hd;cases hd;obtain⟨h1,h2⟩:=aS.mp e;have h3:i<n:=by simpa using h1
   have h4:c=i:=by rw[<-h2];simp
   subst h4;refine⟨h3,fun v H2 hy=>?_⟩;obtain⟨e2,rfl⟩:=hy;subst e2;exact⟨G',.refl s2,je _ _ _⟩
 ·show n<=_;simp
noncomputable def oQ(ds:List D):List D:=ds.mapIdx fun i d=>.tup [.int (i:Nat),d]
theorem OZ{K:PySem.W.Frag}{G:Hp}{t:Addr}{x y:V}{d e:D}(s1:G t=some (.tup [x,y]))(r1:Rep K G x d)(r2:Rep K G y e):Rep K G (.ref t) (.tup [d,e]):=by
 simp only[Rep];exact⟨t,[x,y],rfl,s1,bB.cons r1 (bB.cons r2 bB.nil)⟩
theorem Qk{K:PySem.W.Frag}{G:Hp}{a:Addr}{xs:List V}{ds:List D}(h:j6 K G a xs)(r:bB K G xs ds):rf K (FK K a) G (oQ ds):=by
 refine⟨fun i d G' H' hd s1 s2=>?_,fun G' H' s1 s2=>⟨xs,(s2.gH (s1.gH h)).sq,by rw[r.length];simp[oQ]⟩⟩;unfold oQ at hd;rw[List.getElem?_mapIdx] at hd;cases e:ds[i]? with
 | none=>rw[e] at hd;cases hd
 | some d'=>
  rw[e] at hd;cases hd;obtain⟨v,hv,rv⟩:=r.get e;have hs:gc K H' a xs:=(s2.gH (s1.gH h)).sq;refine⟨⟨xs,v,hs,hv⟩,fun u H2 hy=>?_⟩;obtain⟨t,rfl,ht,y⟩:=hy;obtain⟨x,hx,rfl⟩:=y xs hs;rw[hv] at hx;cases hx;have x2:Ext G' H' (upd G' t (.tup [.int i,v])) (upd H' t (.tup [.int i,v])):=.new s2 ht;exact⟨_,x2,OZ gB (je _ _ _) ((rv.mono s1).mono x2.g)⟩
theorem kh{l:Expr}{te:TD}(h:PD X l te):PId X tg l (iS te):=by
 obtain⟨t,p,q⟩:=h;refine⟨_,M3 p,fun ρ σ G0 H0 G H Q P E h k=>q ρ σ G0 H0 G H _ _ E h fun v H' r G' x rr hq=>?_⟩;obtain⟨G2,x2,rv,_⟩:=rr.freeze x;unfold Ci at hq;split at hq
 ·rename_i ds e;rw[e] at rv;simp only[Rep] at rv;obtain⟨a,xs,rfl,h1,h2⟩:=rv;exact .inl ⟨a,rfl,⟨xs,(x2.s.gH h1).sq⟩,k _ H' _ G2 x2 (Ql h1 h2) hq⟩
 ·rename_i ds e;rw[e] at rv;simp only[Rep] at rv;obtain⟨a,xs,rfl,h1,h2⟩:=rv;exact .inr (.inl ⟨a,rfl,⟨xs,x2.s.lV h1⟩,k _ H' _ G2 x2 (O1 (fH.of h1) h2) hq⟩)
 ·rename_i z e;rw[e] at rv;simp only[Rep] at rv;exact .inr (.inr ⟨z,rv,k _ H' _ G2 x2 (O0 z) hq⟩)
 ·exact hq.elim
def nu(ts:iI):kQ:=fun ρ Q=>ts ρ fun ds=>match ds with
 | [.int j]=>-(2 ^ 62)<=j/\j<2 ^ 62/\Q ((List.range j.toNat).map fun(i:Nat)=>.int (0+i))
 | _=>False
theorem kH{K:PySem.W.Frag}{G:Hp}{vs:List V}{d:D}(h:bB K G vs [d]):∃v,vs=[v]/\Rep K G v d:=by
 match vs,h with
 | [],h=>simp only[bB] at h
 | [v],h=>simp only[bB] at h;exact⟨v,rfl,h.1⟩
 | v::w::r,h=>simp only[bB] at h;exact absurd h.2 (by simp)
theorem BS{K:PySem.W.Frag}{G:Hp}{vs:List V}{d e:D}(h:bB K G vs [d,e]):∃v w,vs=[v,w]/\Rep K G v d/\Rep K G w e:=by
 match vs,h with
 | [],h=>simp only[bB] at h
 | v::r,h=>
  simp only[bB] at h;obtain⟨w,rfl,hw⟩:=kH h.2;exact⟨v,w,rfl,h.1,hw⟩
theorem pG{a:Expr}{ts:iI}{p:Pos}(hm:X.mg "range"=none)(ha:lb X [a] ts)(hg:Gl X "range":=by rfl)(hs:starEach [a] X.env=[(false,eval a X.env)]:=by rfl):PId X tg (.Call (.Name "range" p) [a] [] pos) (nu ts):=by
 obtain⟨t,pp,q⟩:=ha;refine⟨_,P6 hg hm pp hs,fun ρ σ G0 H0 G H Q P E h k=>q ρ σ G0 H0 G H _ _ E h fun vs H' ds G' x rs hq=>?_⟩;split at hq
 ·obtain⟨v,rfl,rv⟩:=kH rs;simp only[Rep] at rv;subst rv;exact⟨_,rfl,hq.1,hq.2.1,k _ H' _ G' x (QI 0 _) hq.2.2⟩
 ·exact hq.elim
def xr(ts:iI):kQ:=fun ρ Q=>ts ρ fun ds=>match ds with
 | [.lst es]=>Q (oQ es)
 | _=>False
theorem CY{a:Expr}{ts:iI}{p tp:Pos}{elts:List Expr}{x1:Nat}(hm:X.mg "enumerate"=none)(ha:lb X [a] ts)(hg:Gl X "enumerate":=by rfl)(hs:starEach [a] X.env=[(false,eval a X.env)]:=by rfl):PId X (.Tuple elts x1 tp) (.Call (.Name "enumerate" p) [a] [] pos) (xr ts):=by
 obtain⟨t,pp,q⟩:=ha;refine⟨_,Nr hg hm pp hs,fun ρ σ G0 H0 G H Q P E h k=>q ρ σ G0 H0 G H _ _ E h fun vs H' ds G' x rs hq=>?_⟩;split at hq
 ·obtain⟨v,rfl,rv⟩:=kH rs;simp only[Rep] at rv;obtain⟨a,xs,rfl,h1,h2⟩:=rv;exact⟨a,xs,rfl,x.s.gH h1,k _ H' _ G' x (Qk h1 h2) hq⟩
 ·exact hq.elim
def j8(wi:kQ)(g:ij)(tb:TX):TX:=fun D ρ=>wi ρ fun ds=>∃Iv:Nat->Ev->Prop,Iv 0 ρ/\
 (∀i d ρ',ds[i]?=some d->Iv i ρ'->g d ρ' fun dR=>tb { D with nx:=Iv (i+1),ct:=Iv (i+1),bk:=D.nx } dR)/\∀ρ',Iv ds.length ρ'->D.nx ρ'
theorem rE{iter:Expr}{body:List Stmt}{wi:kQ}{g:ij}{tb:TX}(hp:PassesOwn (model X.prog X.w) X.A X.env X.xe)(hc:X.calm=true)(hi:PId X tg iter wi)(hg:qo X tg g)(hb:md X body tb)
  (hs:∀x,foldedSetIterable iter X.env x=pure x:=by intro _;rfl):PX X (.For tg iter body [] pos) (j8 wi g tb):=by
 obtain⟨t1,p1,q1⟩:=hi;obtain⟨t2,p2,q2⟩:=hg;obtain⟨t3,p3,q3⟩:=hb;refine⟨_,Gw hp hc p1 p2 p3 hs,fun ρ σ G0 H0 G H D E k h gg=>q1 ρ σ G0 H0 G H _ _ k h fun J H1 ds G1 x1 wk hq=>?_⟩;obtain⟨Iv,i0,turn,fin⟩:=hq;refine⟨fun i m cc H'=>m=ds.length-i/\i<=ds.length/\∃ρ' G',cF X.K G0 H0 ρ' cc G' H'/\bL G1 G'/\Iv i ρ',⟨ds.length,by simp,bg _,ρ,G1,k.ext x1,bL.refl _,i0⟩,?_⟩;rintro i m cc H' ⟨rfl,hi,ρ',G',k',s',iv⟩;by_cases eR:i<ds.length
 ·obtain⟨w1,w2⟩:=wk;obtain⟨go,yl⟩:=w1 i ds[i] G' H' (ao eR) s' k'.e.s;refine .inr ⟨go,fun jB H2=>∃dR G2,cF X.K G0 H0 dR jB G2 H2/\bL G1 G2/\Iv (i+1) dR,fun jB H2 ⟨dR,G2,k2,s2,Ef⟩=>⟨ds.length-(i+1),by omega,rfl,eR,dR,G2,k2,s2,Ef⟩,fun v H2 hy=>?_⟩;obtain⟨G2,x2,rv⟩:=yl v H2 hy;refine q2 ρ' cc G0 H0 G2 H2 ds[i] v _ _ (k'.ext x2) rv (turn i ds[i] ρ' (ao eR) iv) fun pj j7 G3 H3 k3 x3 gN=>?_
  have s3:bL G1 G3:=(s'.trans x2.g).trans x3.g;refine q3 pj j7 G0 H0 G3 H3 _ _ k3 gN ⟨fun lN mE G4 H4 s4 k4 h4=>⟨lN,G4,k4,s3.trans s4,h4⟩,gg.rt,fun lN mE G4 H4 s4 k4 h4=>gg.nx lN mE G4 H4 ((x1.g.trans s3).trans s4) k4 h4,fun lN mE G4 H4 s4 k4 h4=>⟨lN,G4,k4,s3.trans s4,h4⟩⟩
 ·have e:i=ds.length:=by omega
  subst e;exact .inl ⟨wk.2 G' H' s' k'.e.s,gg.nx ρ' cc G' H' (x1.g.trans s') k' (fin ρ' iv)⟩
def GZ(c:iP)(tb:TX):TX:=fun D ρ=>∃W:Nat->Ev->Prop,(∃m,W m ρ)/\∀m ρ',W m ρ'->c ρ' fun b=>if b=true then tb { D with nx:=fun dR=>∃m',m'<m/\W m' dR,ct:=fun dR=>∃m',m'<m/\W m' dR,bk:=D.nx } ρ' else D.nx ρ'
theorem OY{c:Expr}{body:List Stmt}{tc:iP}{tb:TX}(hp:PassesOwn (model X.prog X.w) X.A X.env X.xe)(hc:PB X c tc)(hb:md X body tb):PX X (.While c body [] pos) (GZ tc tb):=by
 obtain⟨t1,p1,q1⟩:=hc;obtain⟨t3,p3,q3⟩:=hb;refine⟨_,OH hp p1 p3,fun ρ σ G0 H0 G H D E k h gg=>?_⟩;obtain⟨W,⟨m0,w0⟩,turn⟩:=h;refine⟨fun m cc H'=>∃ρ' G',cF X.K G0 H0 ρ' cc G' H'/\bL G G'/\W m ρ',⟨m0,ρ,G,k,bL.refl _,w0⟩,?_⟩;rintro m cc H' ⟨ρ',G',k',s',wm⟩;refine q1 ρ' cc G0 H0 G' H' _ _ k' (turn m ρ' wm) fun b H2 G2 x2 hq=>?_
 cases b with
 | true=>
  rw[if_pos rfl] at hq ⊢;refine⟨fun jB H2=>∃m',m'<m/\∃dR G2,cF X.K G0 H0 dR jB G2 H2/\bL G G2/\W m' dR,fun jB H2 h2=>h2,?_⟩;have s2:bL G G2:=s'.trans x2.g;exact q3 ρ' cc G0 H0 G2 H2 _ _ (k'.ext x2) hq ⟨fun lN mE G4 H4 s4 k4 bV=>by obtain⟨m',hm,h4⟩:=bV;exact⟨m',hm,lN,G4,k4,s2.trans s4,h4⟩,gg.rt,fun lN mE G4 H4 s4 k4 h4=>gg.nx lN mE G4 H4 (s2.trans s4) k4 h4,fun lN mE G4 H4 s4 k4 bV=>by obtain⟨m',hm,h4⟩:=bV;exact⟨m',hm,lN,G4,k4,s2.trans s4,h4⟩⟩
 | false=>
  rw[if_neg az] at hq ⊢;exact gg.nx ρ' cc G2 H2 (s'.trans x2.g) (k'.ext x2) hq
end
end L2
namespace L2
open PySem PySem.Spec PyProof.Rows
noncomputable def oO(ρ:Ev):Option Nat->Sl
 | none=>.un
 | some j=>match gt ρ j with
  | .fz d=>.fz d
  | _=>.un
noncomputable def fY(m:List (Option Nat))(ρ:Ev):Ev:=m.map (oO ρ)
theorem qB{m:List (Option Nat)}{ρ:Ev}{i:Nat}:gt (m.map (oO ρ)) i=match m[i]? with
  | some o=>oO ρ o
  | none=>.un:=by
 induction m generalizing i with
 | nil=>simp[gt]
 | cons a r ih=>
  cases i with
  | zero=>simp[gt]
  | succ i=>simp only[au,gt,List.getElem?_cons_succ];exact ih
def pC(m:List (Option Nat))(g:ij):Prop:=∀d ρ Q,g d ρ Q->g d ρ fun dR=>Q dR/\dR.length=ρ.length/\∀j c,m[j]?=some (some c)->gt dR j=gt ρ j
def Au(m:List (Option Nat))(g:nU):Prop:=∀ds ρ Q,g ds ρ Q->g ds ρ fun dR=>Q dR/\dR.length=ρ.length/\∀j c,m[j]?=some (some c)->gt dR j=gt ρ j
theorem j4{m:List (Option Nat)}{i:Nat}(h:m[i]?=some none:=by rfl):pC m (dy i):=fun d ρ Q q=>by
 refine⟨q,by simp,fun j c hj=>?_⟩;rw[rC,if_neg];rintro⟨e,_⟩;subst e;rw[h] at hj;cases hj
theorem OX{m:List (Option Nat)}:Au m jZ:=fun ds ρ Q q=>by
 unfold jZ at q ⊢;split at q
 ·exact⟨q,rfl,fun _ _ _=>rfl⟩
 ·exact q.elim
theorem IH{m:List (Option Nat)}{t:ij}{u:nU}(mono:∀d ρ (Q Q':Ev->Prop),(∀ρ',Q ρ'->Q' ρ')->t d ρ Q->t d ρ Q')(pO:∀d ρ (Q Q':Ev->Prop),(∀ρ',Q ρ'->Q' ρ')->u d ρ Q->u d ρ Q')(h1:pC m t)(h2:Au m u):Au m (fZ t u):=fun ds ρ Q q=>by
 unfold fZ at q ⊢;split at q
 ·refine mono _ _ _ _ (fun ρ' bV=>?_) (h1 _ _ _ q);obtain⟨q',l',k'⟩:=bV;exact pO _ _ _ _ (fun dR bV=>by obtain⟨q2,l2,k2⟩:=bV;exact⟨q2,l2.trans l',fun j c hj=>(k2 j c hj).trans (k' j c hj)⟩) (h2 _ _ _ q')
 ·exact q.elim
theorem OW{m:List (Option Nat)}{n:Nat}{u:nU}(h2:Au m u):pC m (mG n u):=fun d ρ Q q=>by
 unfold mG at q ⊢;split at q
 ·exact⟨q.1,h2 _ _ _ q.2⟩
 ·exact q.elim
theorem C4{i:Nat}:∀d ρ (Q Q':Ev->Prop),(∀ρ',Q ρ'->Q' ρ')->dy i d ρ Q->dy i d ρ Q':=fun _ _ _ _ h q=>h _ q
theorem Ia:∀d ρ (Q Q':Ev->Prop),(∀ρ',Q ρ'->Q' ρ')->jZ d ρ Q->jZ d ρ Q':=fun _ _ _ _ h q=>by
 unfold jZ at q ⊢;split at q
 ·exact h _ q
 ·exact q.elim
theorem Qj{t:ij}{u:nU}(mono:∀d ρ (Q Q':Ev->Prop),(∀ρ',Q ρ'->Q' ρ')->t d ρ Q->t d ρ Q')(pO:∀d ρ (Q Q':Ev->Prop),(∀ρ',Q ρ'->Q' ρ')->u d ρ Q->u d ρ Q'):∀d ρ (Q Q':Ev->Prop),(∀ρ',Q ρ'->Q' ρ')->fZ t u d ρ Q->fZ t u d ρ Q':=fun _ _ _ _ h q=>by
 unfold fZ at q ⊢;split at q
 ·exact mono _ _ _ _ (fun ρ' q'=>pO _ _ _ _ h q') q
 ·exact q.elim
theorem IG{m:List (Option Nat)}{i j n:Nat}(h:m[i]?=some none:=by rfl)(h':m[j]?=some none:=by rfl):pC m (mG n (fZ (dy i) (fZ (dy j) jZ))):=
 OW (IH C4 (Qj C4 Ia) (j4 h) (IH C4 Ia (j4 h') OX))
def wF(X:Cx)(ifs:List Expr)(t:iP):Prop:=∃tt,t6 X ifs tt/\∀(ρ:Ev) (σ:St) (G0 H0 G H:Hp) (Q:Bool->Prop) (P:Bool->Hp->Prop),cF X.K G0 H0 ρ σ G H->t ρ Q->
 (∀b H' G',Ext G H G' H'->Q b->P b H')->tt σ H P
def lF:iP:=fun _ Q=>Q true
theorem oX{X:Cx}:wF X [] lF:=⟨_,Nv,fun ρ σ G0 H0 G H Q P E h k=>k true H G (.refl E.e.s) h⟩
theorem qE{X:Cx}{c:Expr}{t:iP}(h:PB X c t):wF X [c] t:=let⟨tt,p,q⟩:=h;⟨tt,Nu p,q⟩
def hJ(wi:kQ)(m:List (Option Nat))(g:ij)(tc:iP)(te:TD):TD:=fun ρ Q=>wi ρ fun ds=>∃Iv:Nat->List D->Prop,Iv 0 []/\
 (∀i d acc,ds[i]?=some d->Iv i acc->g d (fY m ρ) fun dR=>tc dR fun b=>if b=true then te dR fun r=>acc.length<sizeLine/\Iv (i+1) (acc++[r.val]) else Iv (i+1) acc)/\∀acc,Iv ds.length acc->Q (.ow acc)
section
variable {X:Cx} {elt iter tg:Expr} {ifs:List Expr} {scope:Scope} {pos:Pos} {N':List Str} {m:List (Option Nat)} {wi:kQ} {g:ij} {tc:iP} {te:TD}
theorem OU{ρ:Ev}{σ:St}{G0 H0 G H:Hp}{Q:R->Prop}{P:VK}(cs:cp X N' m scope)(hk:pC m g){ww:TI}{gg:m8 TG}{tw:m8 TT}{tee:m8 TE}
  (q1:∀(ρ:Ev) (σ:St) (G0 H0 G H:Hp) (Q:List D->Prop) (P:It->Hp->Prop),cF X.K G0 H0 ρ σ G H->wi ρ Q->(∀J H' ds G',Ext G H G' H'->rf X.K J G' ds->Q ds->P J H')->ww σ H P)
  (q2:∀s3 H3 ex (ρ:Ev) (σ:St) (G0 H0 G H:Hp) (d:D) (v:V) (Q:Ev->Prop) (P:St->Hp->Prop),cF X.K G0 H0 ρ σ G H->Rep X.K G v d->g d ρ Q->(∀ρ' cc G' H',cF X.K G0 H0 ρ' cc G' H'->Ext G H G' H'->Q ρ'->P cc H')->gg s3 H3 ex v σ H P)
  (q3:∀s3 H3 ex (ρ:Ev) (σ:St) (G0 H0 G H:Hp) (Q:Bool->Prop) (P:Bool->Hp->Prop),cF X.K G0 H0 ρ σ G H->tc ρ Q->(∀b H' G',Ext G H G' H'->Q b->P b H')->tw s3 H3 ex σ H P)
  (q4:∀s3 H3 ex (ρ':Ev) (cc:St) (G1 H1 G' H':Hp) (Q':R->Prop) (P':VK),Ext G H G1 H1->cF X.K G1 H1 ρ' cc G' H'->te ρ' Q'->(∀v H2 r G2,Ext G' H' G2 H2->de X.K G2 H2 H' v r->Q' r->P' v H2)->tee s3 H3 ex cc H' P')
  (E:cF X.K G0 H0 ρ σ G H) (h:hJ wi m g tc te ρ Q) (k:∀v H' r G',Ext G H G' H'->de X.K G' H' H v r->Q r->P v H'):sT ww m gg tw tee σ H P:=by
 refine q1 ρ σ G0 H0 G H _ _ E h fun J H1 ds G1 x1 wk hq=>?_
 obtain⟨Iv,i0,turn,fin⟩:=hq;intro D hD s3 ex;have E1:=E.ext x1;have Fq:G1 D=none:=x1.s.free hD;have iZ:∀{i:Nat} {es:List L2.D},gt (fY m ρ) i=.ow es->False:=fun{i es} h=>by
  unfold fY at h;rw[qB] at h;split at h
  ·rename_i o _;unfold oO at h;split at h
   ·cases h
   ·split at h<;>cases h
  ·cases h
 have pN:∀{i:Nat} {o:OV},gt (fY m ρ) i=.ov o->False:=fun{i o} h=>by
  unfold fY at h;rw[qB] at h;split at h
  ·rename_i o _;unfold oO at h;split at h
   ·cases h
   ·split at h<;>cases h
  ·cases h
 have j3:cF X.K G1 H1 (fY m ρ) (pQ m σ) G1 (upd H1 D (.lst [])):=by
  refine⟨.own x1.s hD,by simp[pQ,fY],fun i d h=>?_,fun i es h=>(iZ h).elim,fun i j es fs _ h=>(iZ h).elim,fun _=>none,fun i es _ h=>(iZ h).elim,fun i o h=>(pN h).elim⟩;unfold fY at h;rw[qB] at h;split at h
  ·rename_i o ho;unfold oO at h;split at h
   ·cases h
   ·rename_i j;split at h
    ·rename_i d' sr;cases h;obtain⟨v,hv,rv⟩:=E1.fz j d sr;refine⟨v,?_,rv⟩;unfold pQ;rw[aR,ho];simp[hv]
    ·cases h
  ·cases h
 refine⟨fun i n cc H'=>n=ds.length-i/\i<=ds.length/\∃acc xs G',cF X.K G1 H1 (fY m ρ) cc G' H'/\H' D=some (.lst xs)/\G' D=none/\bB X.K G' xs acc/\Iv i acc,
  ⟨ds.length,by simp,bg _,[],[],G1,j3,gB,Fq,bB.nil,i0⟩,?_⟩
 rintro i n cc H' ⟨rfl,hi,acc,xs,G',E',hx,zo,rx,iv⟩;by_cases eR:i<ds.length
 ·obtain⟨w1,w2⟩:=wk;obtain⟨go,yl⟩:=w1 i ds[i] G' H' (ao eR) E'.e.g E'.e.s;refine .inr ⟨go,fun jB H2=>∃acc xs G',cF X.K G1 H1 (fY m ρ) jB G' H2/\H2 D=some (.lst xs)/\G' D=none/\bB X.K G' xs acc/\Iv (i+1) acc,fun jB H2 h2=>⟨ds.length-(i+1),by omega,rfl,eR,h2⟩,fun v H2 hy=>?_⟩;obtain⟨G2,x2,rv⟩:=yl v H2 hy;refine q2 _ _ _ (fY m ρ) cc G1 H1 G2 H2 ds[i] v _ _ (E'.ext x2) rv (hk _ _ _ (turn i ds[i] acc (ao eR) iv)) fun pj j7 G3 H3 E3 x3 gN=>?_
  obtain⟨gN,EU,EZ⟩:=gN;have weak:∀j,gt (fY m ρ) j=.un\/gt (fY m ρ) j=gt pj j:=fun j=>by
   cases hm:m[j]? with
   | none=>left;unfold fY;rw[qB,hm]
   | some o=>
    cases o with
    | none=>left;unfold fY;rw[qB,hm];rfl
    | some c=>right;exact(EZ j c hm).symm
  have yx:=x2.trans x3;refine q3 _ _ _ pj j7 G1 H1 G3 H3 _ _ E3 gN fun b H4 G4 x4 rW=>?_
  have qI:=yx.trans x4;have E4:=(E3.ext x4).weak (ρ':=fY m ρ) (EU.symm) weak;have tL:H4 D=some (.lst xs):=qI.h _ _ hx;have zl:G4 D=none:=qI.n D zo (by rw[hx];exact nofun);cases b with
  | false=>
   rw[if_neg az] at rW ⊢;exact⟨acc,xs,G4,E4,tL,zl,rx.mono qI.g,rW⟩
  | true=>
   rw[if_pos rfl] at rW ⊢;refine q4 _ _ _ pj j7 G1 H1 G4 H4 _ _ x1 (E3.ext x4) rW fun v5 H5 r5 G5 x5 D0 uS=>?_
   obtain⟨G6,x6,Tz,_⟩:=D0.freeze x5;have E6:=E4.ext x6;have Ep:H5 D=some (.lst xs):=x6.h _ _ tL;have zk:G6 D=none:=x6.n D zl (by rw[tL];exact nofun);have r6:bB X.K G6 xs acc:=(rx.mono qI.g).mono x6.g;refine⟨xs,Ep,by rw[r6.length];exact uS.1,acc++[r5.val],xs++[v5],G6,?_,gB,zk,r6.append (bB.cons Tz bB.nil),uS.2⟩;refine⟨⟨E6.e.g,fun b o e=>by rw[cN (gX e hD)];exact E6.e.h b o e,fun b o e=>by rw[cN (gX e zk)];exact E6.e.s b o e,E6.e.n⟩,E6.len,E6.fz,fun i es h=>(iZ h).elim,fun i j es fs _ h=>(iZ h).elim,fun _=>none,fun i es _ h=>(iZ h).elim,fun i o h=>(pN h).elim⟩
 ·have e:i=ds.length:=by omega
  subst e;refine .inl ⟨wk.2 G' H' E'.e.g E'.e.s,k _ H' (.ow acc) G' (x1.trans E'.e) ⟨D,xs,rfl,x1.h.free hD,zo,hx,rx⟩ (fin acc iv)⟩
theorem Cy(cs:cp X N' m scope)(hk:pC m g){ww:TI}{gg:m8 TG}{tw:m8 TT}{tee:m8 TE}
  (q1:∀(ρ:Ev) (σ:St) (G0 H0 G H:Hp) (Q:List D->Prop) (P:It->Hp->Prop),cF X.K G0 H0 ρ σ G H->wi ρ Q->(∀J H' ds G',Ext G H G' H'->rf X.K J G' ds->Q ds->P J H')->ww σ H P)
  (q2:∀s3 H3 ex (ρ:Ev) (σ:St) (G0 H0 G H:Hp) (d:D) (v:V) (Q:Ev->Prop) (P:St->Hp->Prop),cF X.K G0 H0 ρ σ G H->Rep X.K G v d->g d ρ Q->(∀ρ' cc G' H',cF X.K G0 H0 ρ' cc G' H'->Ext G H G' H'->Q ρ'->P cc H')->gg s3 H3 ex v σ H P)
  (q3:∀s3 H3 ex (ρ:Ev) (σ:St) (G0 H0 G H:Hp) (Q:Bool->Prop) (P:Bool->Hp->Prop),cF X.K G0 H0 ρ σ G H->tc ρ Q->(∀b H' G',Ext G H G' H'->Q b->P b H')->tw s3 H3 ex σ H P)
  (q4:∀s3 H3 ex,qQ X.K te (tee s3 H3 ex)):qQ X.K (hJ wi m g tc te) (sT ww m gg tw tee):=fun ρ σ G0 H0 G H Q P E h k=>OU cs hk q1 q2 q3 (fun s3 H3 ex ρ' cc G1 H1 G' H' Q' P' _=>q4 s3 H3 ex ρ' cc G1 H1 G' H' Q' P') E h k
theorem oW(hc:X.calm=true)(cs:cp X N' m scope)(hk:pC m g)(hi:PId X tg iter wi)(hg:∀s3 H3 ex,qo (lM X N' scope s3 H3 ex) tg g)(ht:∀s3 H3 ex,wF (lM X N' scope s3 H3 ex) ifs tc)
  (he:∀s3 H3 ex,PD (lM X N' scope s3 H3 ex) elt te) (hs:∀x,foldedSetIterable iter X.env x=pure x:=by intro _;rfl):PD X (.ListComp elt [⟨tg,iter,ifs,0⟩] scope pos) (hJ wi m g tc te):=by
 obtain⟨ww,p1,q1⟩:=hi;exact⟨_,Nt (g:=fun s3 H3 ex=>(hg s3 H3 ex).choose) (tc:=fun s3 H3 ex=>(ht s3 H3 ex).choose) (te:=fun s3 H3 ex=>(he s3 H3 ex).choose) hc cs p1 (fun s3 H3 ex=>(hg s3 H3 ex).choose_spec.1) (fun s3 H3 ex=>(ht s3 H3 ex).choose_spec.1) (fun s3 H3 ex=>(he s3 H3 ex).choose_spec.1) hs,
  Cy cs hk q1 (fun s3 H3 ex=>(hg s3 H3 ex).choose_spec.2) (fun s3 H3 ex=>(ht s3 H3 ex).choose_spec.2) (fun s3 H3 ex=>(he s3 H3 ex).choose_spec.2)⟩
theorem Np(i:Nat){x:Str}{pos' iD:Pos}(hc:X.calm=true)(cs:cp X N' m scope)(hk:pC m g)(hi:PId X tg iter wi)(hg:∀s3 H3 ex,qo (lM X N' scope s3 H3 ex) tg g)(ht:∀s3 H3 ex,wF (lM X N' scope s3 H3 ex) ifs tc)
  (he:∀s3 H3 ex,PD (lM X N' scope s3 H3 ex) elt te) (hN:X.N.Nodup:=by assumption) (sj:X.N[i]?=some x:=by rfl) (hx:Loc X.env.scope x:=by first | exact Or.inl rfl | exact Or.inr rfl) (hs:∀x,foldedSetIterable iter X.env x=pure x:=by intro _;rfl)
  (rV:swapsWith (.ListComp elt [⟨tg,iter,ifs,0⟩] scope pos) (some (.Name x pos')) iD.line X.env=pure true:=by rfl)
  (hf:X.fn x=true\/X.env.scope.names.lookup x=some .local:=by first | exact .inl rfl | exact .inr rfl | assumption) :
  PX X (.Assign [.Name x pos'] (.ListComp elt [⟨tg,iter,ifs,0⟩] scope pos) iD) (mH i (hJ wi m g tc te)):=by
 obtain⟨ww,p1,q1⟩:=hi;refine⟨_,CB (g:=fun s3 H3 ex=>(hg s3 H3 ex).choose) (tc:=fun s3 H3 ex=>(ht s3 H3 ex).choose) (te:=fun s3 H3 ex=>(he s3 H3 ex).choose) hN sj hx hc cs p1 (fun s3 H3 ex=>(hg s3 H3 ex).choose_spec.1) (fun s3 H3 ex=>(ht s3 H3 ex).choose_spec.1) (fun s3 H3 ex=>(he s3 H3 ex).choose_spec.1) hs rV hf,fun ρ σ G0 H0 G H D E k h gg=>?_⟩;exact Cy cs hk q1 (fun s3 H3 ex=>(hg s3 H3 ex).choose_spec.2) (fun s3 H3 ex=>(ht s3 H3 ex).choose_spec.2) (fun s3 H3 ex=>(he s3 H3 ex).choose_spec.2) ρ σ G0 H0 G H _ _ k h fun v H' r G' x rr hq=>gg.nx _ _ G' H' x.g (k.put x rr) hq
theorem sY(i:Nat){x:Str}{pos' iD:Pos}(hc:X.calm=true)(cs:cp X N' m scope)(hk:pC m g)(hi:PId X tg iter wi)(hg:∀s3 H3 ex,qo (lM X N' scope s3 H3 ex) tg g)(ht:∀s3 H3 ex,wF (lM X N' scope s3 H3 ex) ifs tc)
  (he:∀s3 H3 ex,PD (lM X N' scope s3 H3 ex) elt te) (hN:X.N.Nodup:=by assumption) (sj:X.N[i]?=some x:=by rfl) (hx:Loc X.env.scope x:=by first | exact Or.inl rfl | exact Or.inr rfl) (hs:∀x,foldedSetIterable iter X.env x=pure x:=by intro _;rfl)
  (rV:swapsWith (.ListComp elt [⟨tg,iter,ifs,0⟩] scope pos) (some (.Name x pos')) iD.line X.env=pure true:=by rfl)
  (hf:X.fn x=true\/X.env.scope.names.lookup x=some .local:=by first | exact .inl rfl | exact .inr rfl | assumption) :
  PX X (.Assign [.Name x pos'] (.ListComp elt [⟨tg,iter,ifs,0⟩] scope pos) iD) (df i (hJ wi m g tc te)):=by
 obtain⟨ww,p1,q1⟩:=hi;refine⟨_,CB (g:=fun s3 H3 ex=>(hg s3 H3 ex).choose) (tc:=fun s3 H3 ex=>(ht s3 H3 ex).choose) (te:=fun s3 H3 ex=>(he s3 H3 ex).choose) hN sj hx hc cs p1 (fun s3 H3 ex=>(hg s3 H3 ex).choose_spec.1) (fun s3 H3 ex=>(ht s3 H3 ex).choose_spec.1) (fun s3 H3 ex=>(he s3 H3 ex).choose_spec.1) hs rV hf,fun ρ σ G0 H0 G H D E k h gg=>?_⟩;refine Cy cs hk q1 (fun s3 H3 ex=>(hg s3 H3 ex).choose_spec.2) (fun s3 H3 ex=>(ht s3 H3 ex).choose_spec.2) (fun s3 H3 ex=>(he s3 H3 ex).choose_spec.2) ρ σ G0 H0 G H _ _ k h fun v H' r G' x rr hq=>?_
 obtain⟨G2,x2,rv,_⟩:=rr.freeze x;exact gg.nx _ _ G2 H' x2.g (k.put x2 (r:=.fz r.val) rv) hq
end
noncomputable abbrev eX:=List D->(R->Prop)->Prop
def wG(K:PySem.W.Frag)(n:Nat)(t:eX):Sp:=fun vs H Q _=>∃G ds Qr,bL G H/\bB K G vs ds/\ds.length=n/\t ds Qr/\∀v H' r G',Ext G H G' H'->de K G' H' H v r->Qr r->Q v H'
noncomputable def lS(N:List Str)(ds:List D):Ev:=ds.map Sl.fz++List.replicate (N.length-ds.length) .un
theorem Rn{ds:List D}{l:List Sl}{i:Nat}{s:Sl}(h:gt (ds.map Sl.fz++l) i=s):(∃d,ds[i]?=some d/\s=.fz d)\/(ds.length<=i/\gt l (i-ds.length)=s):=by
 induction ds generalizing i with
 | nil=>exact .inr ⟨bg _,by simpa using h⟩
 | cons d ds ih=>
  cases i with
  | zero=>simp only[au,List.cons_append,gt] at h;exact .inl ⟨d,rfl,h.symm⟩
  | succ i=>
   simp only[au,List.cons_append,gt] at h;rcases ih h with⟨e,h1,h2⟩ | ⟨h1,h2⟩
   ·exact .inl ⟨e,by simpa using h1,h2⟩
   ·refine .inr ⟨by simp;omega,?_⟩;rw[aB];rw[show i+1-(ds.length+1)=i-ds.length by omega];exact h2
theorem Qi{n i:Nat}:gt (List.replicate n Sl.un) i=.un:=by
 induction n generalizing i with
 | zero=>simp[gt]
 | succ n ih=>
  cases i with
  | zero=>rfl
  | succ i=>exact ih
theorem Az{K:PySem.W.Frag}{G H:Hp}{N:List Str}{vs:List V}{ds:List D}(s:bL G H)(r:bB K G vs ds):cF K G H (lS N ds) (j3 N vs) G H:=by
 have hl:=r.length;have c:∀{i:Nat} {t:Sl},gt (lS N ds) i=t->t≠.un->∃d,ds[i]?=some d/\t=.fz d:=fun{i t} h n=>by
  rcases Rn h with h | ⟨_,h⟩
  ·exact h
  ·rw[Qi] at h;exact absurd h.symm n
 refine⟨.refl s,by simp[j3,lS,hl],fun i d h=>?_,fun i es h=>?_,fun i j es fs _ h=>?_,fun _=>none,fun i es _ h=>?_,fun i o h=>?_⟩
 ·obtain⟨d',h1,h2⟩:=c h (by simp);cases h2;obtain⟨v,hv,rv⟩:=r.get h1;have hi:i<vs.length:=(aS.mp hv).1;refine⟨v,?_,rv⟩;unfold j3;rw[List.getElem?_append_left (by simpa using hi),aR,hv];rfl
 ·obtain⟨d',h1,h2⟩:=c h (by simp);cases h2
 ·obtain⟨d',h1,h2⟩:=c h (by simp);cases h2
 ·obtain⟨d',h1,h2⟩:=c h (by simp);cases h2
 ·obtain⟨d',h1,h2⟩:=c h (by simp);cases h2
section
variable {P:Program} {w:World} {K:PySem.W.Frag} {mg:Str->Option Value} {base:Heap}
theorem Hw{x qual:Str}{st:Stmt}{f:Addr}{fd:FuncData}{N ps:List Str}{k:Nat}{t:eX}{T:TX}{dV:Value}(F:oH dV K x qual st f fd)(S:bI N ps (bx st))
  (body:∀(cf:Value) (A:Around) (outer:List Env) (s:Shared) (H:Hp) (E:XK),cT k (A.deeper (envOfC qual (bx st) s.heap.objs.size f cf))->md (jl hZ P w K mg base N qual (bx st) f cf A outer s H E).kN (cq st) T)
  (spec:∀(ds:List D) (Qr:R->Prop),ds.length=ps.length->t ds Qr->T { nx:=fun _=>Qr (.fz .non),rt:=Qr } (lS N ds)):fW P w K mg base hZ (k+1) f fd ps (wG K ps.length t):=by
 refine F.ok S (fun vs H Q E h=>?_) (fun cf A outer s H vs Q E hr h=>?_)
 ·obtain⟨G,ds,Qr,_,r,hl,_⟩:=h;rw[r.length,hl]
 ·obtain⟨G,ds,Qr,s0,r,hl,ht,k0⟩:=h;obtain⟨tt,p,q⟩:=body cf A outer s H E hr;exact⟨tt,p,q _ _ G H G H _ _ (Az s0 r) (spec ds Qr hl ht) ⟨fun ρ σ G' H' _ e h=>k0 _ H' _ G' e.e (fj (Ao _ _)) h,k0,fun _ _ _ _ _ _ h=>h.elim,fun _ _ _ _ _ _ h=>h.elim⟩⟩
end
section
variable {X:Cx} {k n:Nat} {f:Addr} {fd:FuncData} {ps:List Str} {t:eX} {x:Str} {p pos:Pos} {e:Expr} {es:List Expr} {ts:iI}
def fq(n:Nat)(t:eX)(ts:iI):TD:=fun ρ Q=>ts ρ fun ds=>ds.length=n/\t ds Q
theorem Nn(F:fW X.prog X.w X.K X.mg X.base hZ k f fd ps (wG X.K n t))(hr:cT k X.A)(hm:X.mg x=some (.ref f))(hk:PySem.W.keepIn X.K (.ref f)=true)(hb:Binds X.K fd ps [])(ha:lb X (e::es) ts)(hg:Gl X x:=by rfl)(js:(x==("__debug__":Str))=false:=by decide)
  (he:starEach (e::es) X.env=(false,eval e X.env)::starEach es X.env:=by rfl) (fR:(backTo pos (starEach es X.env)).any (·.1)=false:=by rfl):PD X (.Call (.Name x p) (e::es) [] pos) (fq n t ts):=by
 obtain⟨tt,pp,q⟩:=ha;refine⟨_,Ap F hr hg hm hk hb .nil BU pp js he fR,fun ρ σ G0 H0 G H Q P E h k=>q ρ σ G0 H0 G H _ _ E h fun vs H' ds G' x rs hq=>?_⟩;rw[aM];exact⟨G',ds,Q,x.s,rs,hq.1,hq.2,fun v H2 r G2 x2 rr q2=>k v H2 r G2 (x.trans x2) (rr.ef x.h) q2⟩
end
end L2
namespace L2
open PySem PySem.Spec PyProof.Rows PySem.StrLaws
noncomputable def iR{α:Type}(xs:List α)(lo hi:Option Int):List α:=(xs.drop (HT.dz xs.length 0 lo)).take (HT.dz xs.length xs.length hi-HT.dz xs.length 0 lo)
noncomputable def pk(z:Str)(lo hi:Option Int):Str:=⟨(iR z.cps.toList lo hi).toArray⟩
theorem sR(v:Int)(n d:Nat):max 0 (min (if v<0 then v+(n:Int) else v) (n:Int))=((HT.dz n d (some v):Nat):Int):=by
 rw[<-HT.k7];by_cases h:v<0
 ·rw[if_pos h,if_pos h];omega
 ·rw[if_neg h,if_neg h];omega
theorem Jk(z:Str)(lo hi:Option Int):(Builtin.Str.strSliceIndices lo hi 1 z.length).filterMap (z.cps[·]?)=iR z.cps.toList lo hi:=by
 have hl:z.cps.toList.length=z.length:=by simp[Str.length]
 have e:Builtin.Str.strSliceIndices lo hi 1 z.length=sliceRange ((HT.dz z.length 0 lo:Nat):Int) ((HT.dz z.length z.length hi:Nat):Int) 1:=by
  unfold Builtin.Str.strSliceIndices;cases lo with
  | none=>
   cases hi with
   | none=>rfl
   | some v=>simp only[show((1:Int)>0) from by decide,bh,sR v z.length z.length];rfl
  | some u=>
   cases hi with
   | none=>simp only[show((1:Int)>0) from by decide,bh,sR u z.length 0];rfl
   | some v=>simp only[show((1:Int)>0) from by decide,bh,sR v z.length z.length,sR u z.length 0]
 rw[e];unfold iR;rw[hl];generalize ha:HT.dz z.length 0 lo=a;generalize hb:HT.dz z.length z.length hi=b;have Fh:b<=z.length:=by rw[<-hb];exact HT.iW _ _ (aw _) _
 have Ko:a<=z.length:=by rw[<-ha];exact HT.iW _ _ (bg _) _
 by_cases kP:a<=b
 ·have:=sliced_plain z kP Fh;rw[strSliceIndices_plain kP Fh] at this;rw[<-this];unfold sliceRange;simp only[show((1:Int)>0) from by decide,bh];congr 1
  by_cases h:a<b
  ·rw[if_pos (by omega)];rw[show(((b:Int)-(a:Int)+1-1)/1).toNat=b-a by omega];apply List.map_congr_left;intro k _;show((a:Int)+1*(k:Int)).toNat=a+k;omega
  ·rw[if_neg (by omega),show b-a=0 by omega];rfl
 ·rw[show b-a=0 by omega,List.take_zero];unfold sliceRange;simp only[show((1:Int)>0) from by decide,bh];rw[if_neg (by omega)];rfl
theorem Qh(z:Str)(lo hi:Option Int):Txt.slice z lo hi=pk z lo hi:=by
 unfold Txt.slice pk;split
 ·rename_i h;have h':(Builtin.Str.strSliceIndices lo hi 1 z.length).length=z.length:=by simpa using h
  have hl:z.cps.toList.length=z.length:=by simp[Str.length]
  have e:=Jk z lo hi;have h2:(iR z.cps.toList lo hi).length=z.length:=by
   unfold iR;rw[aP,List.length_drop,hl];have e1:Builtin.Str.strSliceIndices lo hi 1 z.length=sliceRange ((HT.dz z.length 0 lo:Nat):Int) ((HT.dz z.length z.length hi:Nat):Int) 1:=by
    unfold Builtin.Str.strSliceIndices;cases lo with
    | none=>
     cases hi with
     | none=>rfl
     | some v=>simp only[show((1:Int)>0) from by decide,bh,sR v z.length z.length];rfl
    | some u=>
     cases hi with
     | none=>simp only[show((1:Int)>0) from by decide,bh,sR u z.length 0];rfl
     | some v=>simp only[show((1:Int)>0) from by decide,bh,sR v z.length z.length,sR u z.length 0]
   rw[e1] at h';unfold sliceRange at h';simp only[show((1:Int)>0) from by decide,bh,ae,List.length_range] at h';have b1:=HT.iW z.length z.length (aw _) hi;have b2:=HT.iW z.length 0 (bg _) lo;by_cases h3:((HT.dz z.length 0 lo:Nat):Int)<((HT.dz z.length z.length hi:Nat):Int)
   ·rw[if_pos h3] at h';omega
   ·rw[if_neg h3] at h';simp at h';omega
  apply Str.ext';show z.cps=(iR z.cps.toList lo hi).toArray;have h3:iR z.cps.toList lo hi=z.cps.toList:=by
   unfold iR at h2 ⊢;rw[aP,List.length_drop,hl] at h2;rw[hl];have b1:=HT.iW z.length z.length (aw _) hi;have a0:HT.dz z.length 0 lo=0\/z.length=0:=by omega
   rcases a0 with a0 | a0
   ·rw[a0,List.drop_zero,Nat.sub_zero];exact List.take_of_length_le (by omega)
   ·have:z.cps.toList=[]:=List.eq_nil_of_length_eq_zero (by omega);rw[this];simp
  rw[h3]
 ·rw[Jk]
section
variable {X:Cx} {pos:Pos} {e:Expr} {te:TD}
theorem uA:tY X (fun x lo hi H Q=>∃z,x=.str z/\z.length<=sizeLine/\Q (.str (pk z lo hi)) H):=by
 intro pins s σ H x v vl vu lo hi sl Q I rx hs pl pu h;obtain⟨z,rfl,hz,q⟩:=h;obtain⟨t,rfl⟩:=rx;refine⟨"str",_,F.slot_str_getitem.lookup,typeIs_str _ _ _,?_⟩;have part:∀{u:Value} {o:Option Int},IsPart u o->∃p:Option (Int×Tok),u=partValue p/\p.map (·.1)=o:=fun h=>by
  cases h with
  | none=>exact⟨none,rfl,rfl⟩
  | int i t=>exact⟨some (i,t),rfl,rfl⟩
 obtain⟨p1,rfl,e1⟩:=part pl;obtain⟨p2,rfl,e2⟩:=part pu;obtain⟨o,ho,hc,hd⟩:=hs;refine wpAny_getItem_str_slice (l:=p1) (u:=p2) (st:=none) ⟨o,ho,hc,hd⟩ rfl ?_;have fin:∀t' k,EP X pins σ Q (.str (Txt.slice z lo hi) t') { s with toks:=k }:=fun t' k=>⟨.str (pk z lo hi),H,I.tok k,⟨t',by rw[Qh]⟩,q⟩
 have hle:=aT (Txt.slice_le z lo hi) hz;subst e1 e2;exact post_val_or_str ⟨hle,fin⟩
noncomputable abbrev zI:=Ev->(Option Int->Prop)->Prop
def By(X:Cx)(e:Option Expr)(t:zI):Prop:=∃tt,PO X e tt/\∀(ρ:Ev) (σ:St) (G0 H0 G H:Hp) (Q:Option Int->Prop) (P:Option Int->Hp->Prop),cF X.K G0 H0 ρ σ G H->t ρ Q->(∀o H' G',Ext G H G' H'->Q o->P o H')->tt σ H P
def kX:zI:=fun _ Q=>Q none
def iT(te:TD):zI:=fun ρ Q=>te ρ fun r=>match r.val with
 | .int i=>Q (some i)
 | _=>False
theorem mL:By X none kX:=⟨_,Nx,fun ρ σ G0 H0 G H Q P E h k=>k none H G (.refl E.e.s) h⟩
theorem jz(h:PD X e te):By X (some e) (iT te):=by
 obtain⟨t,p,q⟩:=h;refine⟨_,Nw p,fun ρ σ G0 H0 G H Q P E h k=>q ρ σ G0 H0 G H _ _ E h fun v H' r G' x rr hq=>?_⟩;obtain⟨G2,x2,rv,_⟩:=rr.freeze x;split at hq
 ·rename_i i e1;rw[e1] at rv;simp only[Rep] at rv;exact⟨i,rv,k _ H' G2 x2 hq⟩
 ·exact hq.elim
def jN(te:TD)(tl th:zI):TD:=fun ρ Q=>te ρ fun r=>tl ρ fun lo=>th ρ fun hi=>match r.val with
 | .lst ds=>Q (.ow (iR ds lo hi))
 | .str z=>z.length<=sizeLine/\Q (.fz (.str (pk z lo hi)))
 | .tup ds=>¬(HT.dz ds.length 0 lo=0/\HT.dz ds.length ds.length hi=ds.length)/\Q (.fz (.tup (iR ds lo hi)))
 | _=>False
theorem Hv{K:PySem.W.Frag}{G:Hp}{xs:List V}{ds:List D}(r:bB K G xs ds)(lo hi:Option Int):bB K G (qv xs lo hi) (iR ds lo hi):=by
 unfold qv iR;rw[r.length];exact(r.drop _).take _
theorem kK{lo hi:Option Expr}{tl th:zI}{p2:Pos}(he:PD X e te)(hl:By X lo tl)(hh:By X hi th):PD X (.Subscript e (.Slice lo hi none p2) pos) (jN te tl th):=by
 obtain⟨t1,p1,q1⟩:=he;obtain⟨t2,p2,q2⟩:=hl;obtain⟨t3,p3,q3⟩:=hh;refine⟨_,OA (rN.or (uA.or M8)) p1 p2 p3,fun ρ σ G0 H0 G H Q P E h k=>q1 ρ σ G0 H0 G H _ _ E h fun v H' r G' x rr hq=>?_⟩;obtain⟨G1,x1,rv,_⟩:=rr.freeze x;refine q2 ρ σ G0 H0 G1 H' _ _ (E.ext x1) hq fun lo H2 G2 x2 kq=>?_
 refine q3 ρ σ G0 H0 G2 H2 _ _ ((E.ext x1).ext x2) kq fun hi H3 G3 x3 gN=>?_
 have pH:=(x1.trans x2).trans x3;have oi:=(rv.mono x2.g).mono x3.g;split at gN
 ·rename_i ds e1;rw[e1] at oi;simp only[Rep] at oi;obtain⟨a,xs,rfl,h1,h2⟩:=oi;refine .inl ⟨a,xs,rfl,(pH.s.gH h1).sq,fun p hp=>?_⟩;exact k _ _ (.ow _) G3 (pH.trans (.own pH.s hp)) ⟨p,_,rfl,pH.h.free hp,pH.s.free hp,gB,Hv h2 lo hi⟩ gN
 ·rename_i z e1;rw[e1] at oi;simp only[Rep] at oi;exact .inr (.inl ⟨z,oi,gN.1,k _ _ _ G3 pH (fj (vG _ _ _)) gN.2⟩)
 ·rename_i ds e1;rw[e1] at oi;simp only[Rep] at oi;obtain⟨a,xs,rfl,h1,h2⟩:=oi;refine .inr (.inr ⟨a,xs,rfl,pH.s.lV h1,by rw[h2.length];exact gN.1,fun p hp=>?_⟩);have x4:Ext G3 H3 (upd G3 p (.tup (qv xs lo hi))) (upd H3 p (.tup (qv xs lo hi))):=.new pH.s hp;refine k _ _ (.fz _) _ (pH.trans x4) ?_ gN.2;show Rep X.K _ _ (.tup _);simp only[Rep];exact⟨p,_,rfl,gB,(Hv h2 lo hi).mono x4.g⟩
 ·exact gN.elim
def jY:eX:=fun ds Q=>match ds with
 | [.lst es]=>Q (.fz (.int es.length))
 | [.tup es]=>Q (.fz (.int es.length))
 | [.str z]=>z.length<=sizeLine/\Q (.fz (.int z.length))
 | _=>False
theorem lG:pv X (.builtin "len") jY:=by
 refine⟨_,iH.or Rp,fun G H vs ds Q P s rs h k=>?_⟩;unfold jY at h;split at h
 ·obtain⟨v,rfl,rv⟩:=kH rs;simp only[Rep] at rv;obtain⟨a,xs,rfl,h1,h2⟩:=rv;refine .inl ⟨a,xs,rfl,.inl ((s.gH h1).sq),?_⟩;rw[h2.length];exact k _ _ _ G (.refl s) (fj (je _ _ _)) h
 ·obtain⟨v,rfl,rv⟩:=kH rs;simp only[Rep] at rv;obtain⟨a,xs,rfl,h1,h2⟩:=rv;refine .inl ⟨a,xs,rfl,.inr (s.lV h1),?_⟩;rw[h2.length];exact k _ _ _ G (.refl s) (fj (je _ _ _)) h
 ·obtain⟨v,rfl,rv⟩:=kH rs;simp only[Rep] at rv;subst rv;exact .inr ⟨_,rfl,h.1,k _ _ _ G (.refl s) (fj (je _ _ _)) h.2⟩
 ·exact h.elim
def xq(i:Nat):TD:=fun ρ Q=>match gt ρ i with
 | .ow ds=>Q (.fz (.int ds.length))
 | _=>False
theorem Hu(i:Nat){x:Str}{p p':Pos}(hm:X.mg "len"=none)(hN:X.N[i]?=some x:=by rfl)(hv:l8 X.env.scope x:=by first | exact Or.inl rfl | exact Or.inr (Or.inl rfl) | exact Or.inr (Or.inr rfl))(hg:Gl X "len":=by rfl)(hd:(x==("__debug__":Str))=false:=by decide)
  (iO:(x==("__classdict__":Str))=false:=by decide) (gI:starEach [Expr.Name x p'] X.env=(false,eval (.Name x p') X.env)::starEach [] X.env:=by rfl):PD X (.Call (.Name "len" p) [.Name x p'] [] pos) (xq i):=by
 refine⟨_,vQ iH hg hm boot_len (mK (oR hN hv hd iO) pE gI),fun ρ σ G0 H0 G H Q P E h k=>?_⟩;unfold xq at h;split at h
 ·rename_i ds hg;obtain⟨a,xs,h1,h2,h3,h4,h5⟩:=E.ow i ds hg;refine⟨_,h1,a,xs,rfl,.inl (gc.of h2),?_⟩;rw[h5.length];exact k _ _ _ G (.refl E.e.s) (fj (je _ _ _)) h
 ·exact h.elim
end
end L2
namespace L2
open PySem PySem.Spec PyProof.Rows
section
variable {X:Cx} {pos:Pos} {e:Expr} {te:TD}
noncomputable def pJ:D->String
 | .non=>"NoneType"
 | .bl _=>"bool"
 | .int _=>"int"
 | .str _=>"str"
 | .tup _=>"tuple"
 | .lst _=>"list"
 | .obj _ _=>"object"
 | .dic _=>"dict"
 | .dit _=>"dict"
 | .exc _ _=>"object"
 | .idn _ _=>"object"
end
end L2
namespace L2
open PySem PySem.Spec PyProof.Rows
section
variable {P:Program} {w:World} {K:PySem.W.Frag} {mg:Str->Option Value} {base:Heap}
structure Known (P:Program) (w:World) (K:PySem.W.Frag) (mg:Str->Option Value) (base:Heap) (k:Nat) (x:Str) (n:Nat) (t:eX):Prop where
 ex:∃(f:Addr) (fd:FuncData) (ps:List Str),fW P w K mg base hZ k f fd ps (wG K n t)/\mg x=some (.ref f)/\PySem.W.keepIn K (.ref f)=true/\Binds K fd ps []
structure At (K:PySem.W.Frag) (mg:Str->Option Value) (x:Str) (st:Stmt):Prop where
 ex:∃(f:Addr) (fd:FuncData),xa K x x st f fd/\mg x=some (.ref f)
theorem zH{h:Heap}{x:Str}{st:Stmt}{f:Addr}{oc:Value}{od an:Option Addr}{nI:Array (Option Value)}{kV doc pm cf ct:Value}(X:K.In h)(G:h.Ns mainGlobals mg)(a:PySem.W.nsIn K mainGlobals x=some (some (.ref f)))
  (l:K.lookup f=some ⟨oc,od,.func (PySem.W.fnOf x x (dX st) (cq st) (bx st) .none kV doc pm an cf ct),nI⟩) (c:PySem.W.codeIn K cf x=true) (k:PySem.W.keepIn K (.ref f)=true):At K mg x st:=
 ⟨f,_,mX l c k,ba X G a⟩
theorem sy{h:Heap}{x:Str}{u:Value}{z:Int}{t:Tok}(X:K.In h)(G:h.Ns mainGlobals mg)(c:PySem.W.nsIn K mainGlobals x=some (some u))(e:u=.int z t):∃t,mg x=some (.int z t):=⟨t,by rw[ba X G c,e]⟩
end
section
variable {X:Cx} {k k' n:Nat} {t:eX} {x:Str} {p pos:Pos} {e:Expr} {es:List Expr} {ts:iI}
theorem fO(C:Known X.prog X.w X.K X.mg X.base k x n t)(hr:cT k' X.A)(ha:lb X (e::es) ts)(hk:k<=k':=by decide)(hg:Gl X x:=by rfl)(js:(x==("__debug__":Str))=false:=by decide)
  (he:starEach (e::es) X.env=(false,eval e X.env)::starEach es X.env:=by rfl) (fR:(backTo pos (starEach es X.env)).any (·.1)=false:=by rfl):PD X (.Call (.Name x p) (e::es) [] pos) (fq n t ts):=by
 obtain⟨f,fd,ps,F,hm,kp,hb⟩:=C.ex;exact Nn F (hr.mono hk) hm kp hb ha hg js he fR
end
noncomputable def Ht(kindOf:Str->Option NameKind)(N N':List Str)(m:List (Option Nat))(scope:Scope):Bool:=
 (scope.kind==.function)&&(m.length==N'.length)&&(scope.names.all fun y=>scope.names.lookup y.1==some y.2) &&
 (scope.names.all fun y=>y.2 != .free||kindOf y.1==some .cell||kindOf y.1==some .free) &&
 ((m.zip N').all fun p=>match p.1 with
   | none=>true
   | some j=>N[j]?==some p.2&&scope.names.lookup p.2==some .free)
theorem cp.of{X:Cx}{N':List Str}{m:List (Option Nat)}{scope:Scope}(h:Ht X.env.kindOf X.N N' m scope=true):cp X N' m scope:=by
 unfold Ht at h;simp only[Bool.and_eq_true,beq_iff_eq,List.all_eq_true,Bool.or_eq_true,bne_iff_ne,ne_eq] at h;obtain⟨⟨⟨⟨h1,h2⟩,h3⟩,h5⟩,h6⟩:=h;refine⟨h1,h2,fun y hy=>h3 y hy,fun y hy e=>?_,fun i j x hm hN=>?_⟩
 ·rcases h5 y hy with(z | z) | z
  ·exact absurd e z
  ·exact .inl z
  ·exact .inr z
 ·have hz:(some j,x)∈m.zip N':=by
   apply List.mem_of_getElem? (i:=i);rw[List.getElem?_zip_eq_some];exact⟨hm,hN⟩
  have:=h6 _ hz;simpa using this
theorem QH{K:PySem.W.Frag}{G:Hp}{a:Addr}{ns:List Int}(h:j6 K G a (ns.map V.int)):Rep K G (.ref a) (.lst (ns.map D.int)):=by
 simp only[Rep];refine⟨a,_,rfl,h,?_⟩;clear h;induction ns with
 | nil=>exact bB.nil
 | cons n r ih=>exact bB.cons (je _ _ _) ih
def BR(n:Nat):eX:=fun ds Q=>∃ns:List Int,ds=[.lst (ns.map .int)]/\ns.length<=n/\Q (.fz (.bl true))
theorem n8{l:PySem.W.OpenLaw}{n k:Nat}{q:Program}{loose:List Str}{XP:(Str->Option Value)->Heap->Prop}{YP:World->Heap->Prop}{d:DefRec}{K:Params->PySem.W.Frag}{x:Str}
  (hn:l.most=some n) (o5:n<=sizeLine) (Fc:d.params.defaults=[]) (hr:cT k callerA) (hY:∀(w:World) (h:Heap),YP w h->(K w.params).In h)
  (F:∀(w:World) (mg:Str->Option Value) (fa:Addr) (h:Heap),(K w.params).In h->h.Ns mainGlobals mg->mg d.name=some (.ref fa)->
   ∃fd:FuncData,(∀(s:Shared) (u:Value),BindsTo s fd ⟨[u],[]⟩ [(x,u)])/\∀base:Heap,fW l.prog w (K w.params) mg base hZ k fa fd [x] (wG (K w.params) 1 (BR n))) :
  PySem.W.WalkO q loose XP YP l.row.toRowW d [] (fun f vs=>PySem.call f vs):=by
 refine KQ.l7 hn Fc fun w cS cw mg mb fa o pm cd doc a vs ns G Y ho hd iO sd r0 hints hlen hg=>?_
 have KX:=hY w _ Y;obtain⟨fd,hb,hF⟩:=F w mg fa _ KX G.T.g sd;refine Oy KX G.T.g G.T.b G.T.builtins G.T.nolimit hg r0 hints (aT hlen o5) hr (fun base _ _=>hF base) hb (fun H hO hS=>?_) fun H e s' z=>z
 have hL:j6 (K w.params) H a (ns.map V.int):=by
  rcases hS with hS | ⟨o,its,m,h1,h2,h3,h4,h5,h6⟩
  ·exact .inl hS
  ·have e:=KX a o h1;rw[r0] at e;cases e;have Vi:Data.seq vs.toArray _=Data.seq its m:=h4;injection Vi with e1 e2
   subst e1;exact .inr ⟨_,_,h1,h5,h6⟩
 refine⟨H,[.lst (ns.map .int)],fun r=>r=.fz (.bl true),bL.refl _,bB.cons (QH hL) bB.nil,rfl,⟨ns,rfl,hlen,rfl⟩,fun v H' r G' _ rr e=>?_⟩;subst e;simpa only[de,Rep] using rr
theorem MV{P:Program}{w:World}{K:PySem.W.Frag}{mg:Str->Option Value}{st:Stmt}{N:List Str}{x:Str}{k:Nat}{t:eX}{T:Heap->TX}{fa:Addr}(DA:At K mg "law" st)(sd:mg "law"=some (.ref fa))(S:bI N [x] (bx st))
  (hb:∀(kV doc pm:Value) (an:Option Addr) (cf ct:Value) (us:List Value),us.length=1->bindArgs (PySem.W.fnOf "law" "law" (dX st) (cq st) (bx st) .none kV doc pm an cf ct) ⟨us,[]⟩=pure ([x].zip us))
  (body:∀(base:Heap) (f:Addr) (cf:Value) (A:Around) (outer:List Env) (s:Shared) (H:Hp) (E:XK),cT k (A.deeper (envOfC "law" (bx st) s.heap.objs.size f cf))->md (jl hZ P w K mg base N "law" (bx st) f cf A outer s H E).kN (cq st) (T base))
  (spec:∀(base:Heap) (ds:List D) (Qr:R->Prop),ds.length=1->t ds Qr->T base { nx:=fun _=>Qr (.fz .non),rt:=Qr } (lS N ds)) :
  ∃fd:FuncData,(∀(s:Shared) (u:Value),BindsTo s fd ⟨[u],[]⟩ [(x,u)])/\∀base:Heap,fW P w K mg base hZ (k+1) fa fd [x] (wG K 1 t):=by
 obtain⟨f,fd,F,hm⟩:=DA.ex;rw[sd] at hm;cases hm;refine⟨fd,fun s u=>?_,fun base=>Hw F S (body base fa) (spec base)⟩;obtain⟨oc,od,kV,doc,pm,an,cf,ct,nI,rfl,lk,iO⟩:=F.ex;exact .of_eq (hb kV doc pm an cf ct [u] rfl)
end L2
namespace L2
open PySem PySem.Spec PyProof.Rows
def qZ(i:Nat)(t:TX):TX:=fun D ρ=>t D (jL i ρ)
theorem ug(d:D):(R.fz d).val=d:=rfl
theorem GY(ds:List D):(R.ow ds).val=.lst ds:=rfl
theorem LU(d:D):(R.fz d).sl=.fz d:=rfl
theorem LS(ds:List D):(R.ow ds).sl=.ow ds:=rfl
theorem HE{α:Type}{wi:kQ}{m:List (Option Nat)}{g:ij}{tc:iP}{te:TD}{ρ:Ev}{Q:R->Prop}(L:List α)(φ:α->D)(f:α->Option D)(hw:∀Q':List D->Prop,Q' (L.map φ)->wi ρ Q')(hl:L.length<=sizeLine)
  (h:∀x∈L,∀(K1:D->Prop) (K0:Prop),(∀e,f x=some e->K1 e)->(f x=none->K0)->g (φ x) (fY m ρ) fun dR=>tc dR fun b=>if b=true then te dR fun r=>K1 r.val else K0)
  (q:Q (.ow (L.filterMap f))):hJ wi m g tc te ρ Q:=by
 refine hw _ ⟨fun i acc=>acc=(L.take i).filterMap f,rfl,fun i d acc hd ha=>?_,fun acc ha=>?_⟩
 ·rw[aR] at hd;cases hx:L[i]? with
  | none=>rw[hx] at hd;cases hd
  | some x=>
   rw[hx] at hd;cases hd;have hi:i<L.length:=(aS.mp hx).1;have e:L.take (i+1)=L.take i++[x]:=by rw[List.take_add_one,hx];rfl
   have hlen:acc.length<sizeLine:=by
    rw[ha];refine Nat.lt_of_le_of_lt (List.length_filterMap_le _ _) ?_;rw[aP];omega
   exact h x (List.mem_of_getElem? hx) (fun e=>acc.length<sizeLine/\acc++[e]=(L.take (i+1)).filterMap f) (acc=(L.take (i+1)).filterMap f)
    (fun z hz=>⟨hlen,by rw[e,List.filterMap_append,ha];simp[hz]⟩) (fun hz=>by rw[e,List.filterMap_append,ha];simp[hz])
 ·dsimp only at ha;rw[ae,List.take_length] at ha;rw[ha];exact q
theorem qH{α:Type}{wi:kQ}{m:List (Option Nat)}{g:ij}{te:TD}{ρ:Ev}{Q:R->Prop}(L:List α)(φ f:α->D)(hw:∀Q':List D->Prop,Q' (L.map φ)->wi ρ Q')(hl:L.length<=sizeLine)
  (h:∀x∈L,∀(K1:D->Prop),K1 (f x)->g (φ x) (fY m ρ) fun dR=>te dR fun r=>K1 r.val) (q:Q (.ow (L.map f))):hJ wi m g lF te ρ Q:=by
 refine HE L φ (fun x=>some (f x)) hw hl (fun x hx K1 K0 h1 _=>?_) ?_
 ·have:=h x hx K1 (h1 _ rfl);simpa[lF] using this
 ·have e:L.filterMap (fun x=>some (f x))=L.map f:=by
   induction L with
   | nil=>rfl
   | cons a r ih=>simp
  rw[e];exact q
theorem rK{α:Type}{wi:kQ}{m:List (Option Nat)}{g:ij}{tc:iP}{te:TD}{ρ:Ev}{Q:R->Prop}(L:List α)(φ f:α->D)(p:α->Bool)(hw:∀Q':List D->Prop,Q' (L.map φ)->wi ρ Q')(hl:L.length<=sizeLine)
  (h:∀x∈L,∀(K1:D->Prop) (K0:Prop),(p x=true->K1 (f x))->(p x=false->K0)->g (φ x) (fY m ρ) fun dR=>tc dR fun b=>if b=true then te dR fun r=>K1 r.val else K0)
  (q:Q (.ow ((L.filter p).map f))):hJ wi m g tc te ρ Q:=by
 refine HE L φ (fun x=>if p x=true then some (f x) else none) hw hl (fun x hx K1 K0 h1 h0=>h x hx K1 K0 (fun z=>h1 _ (by simp[z])) (fun z=>h0 (by simp[z]))) ?_;have e:L.filterMap (fun x=>if p x=true then some (f x) else none)=(L.filter p).map f:=by
  clear h hl hw q;induction L with
  | nil=>rfl
  | cons a r ih=>by_cases z:p a=true<;>simp[z,ih]
 rw[e];exact q
theorem HZ{wi:kQ}{g:ij}{tb:TX}{D:DE}{ρ:Ev}(ds:List L2.D)(hw:∀Q':List L2.D->Prop,Q' ds->wi ρ Q')(Iv:Nat->Ev->Prop)(h0:Iv 0 ρ)
  (turn:∀i d ρ',ds[i]?=some d->Iv i ρ'->g d ρ' fun dR=>tb { D with nx:=Iv (i+1),ct:=Iv (i+1),bk:=D.nx } dR) (fin:∀ρ',Iv ds.length ρ'->D.nx ρ'):j8 wi g tb D ρ:=hw _ ⟨Iv,h0,turn,fin⟩
theorem C3{α:Type}{wi:kQ}{g:ij}{tb:TX}{D:DE}{ρ:Ev}(L:List α)(φ:α->L2.D)(hw:∀Q':List L2.D->Prop,Q' (L.map φ)->wi ρ Q')(Iv:Nat->Ev->Prop)(h0:Iv 0 ρ)
  (turn:∀i x ρ',L[i]?=some x->Iv i ρ'->g (φ x) ρ' fun dR=>tb { D with nx:=Iv (i+1),ct:=Iv (i+1),bk:=D.nx } dR) (fin:∀ρ',Iv L.length ρ'->D.nx ρ'):j8 wi g tb D ρ:=by
 refine HZ (L.map φ) hw Iv h0 (fun i d ρ' hd iv=>?_) (fun ρ' iv=>fin ρ' (by simpa using iv));rw[aR] at hd;cases hx:L[i]? with
 | none=>rw[hx] at hd;cases hd
 | some x=>rw[hx] at hd;cases hd;exact turn i x ρ' hx iv
theorem ux{g:ij}{tb:TX}{D:DE}{ρ:Ev}{wi:kQ}(n:Nat)(hw:∀Q':List L2.D->Prop,Q' ((List.range n).map fun(i:Nat)=>.int (0+i))->wi ρ Q')(Iv:Nat->Ev->Prop)(h0:Iv 0 ρ)
  (turn:∀(i:Nat) ρ',i<n->Iv i ρ'->g (.int i) ρ' fun dR=>tb { D with nx:=Iv (i+1),ct:=Iv (i+1),bk:=D.nx } dR) (fin:∀ρ',Iv n ρ'->D.nx ρ'):j8 wi g tb D ρ:=by
 refine C3 (List.range n) (fun(i:Nat)=>.int (0+i)) hw Iv h0 (fun i x ρ' hx iv=>?_) (fun ρ' iv=>fin ρ' (by simpa using iv));obtain⟨h1,h2⟩:=aS.mp hx;have h3:i<n:=by simpa using h1
 have h4:x=i:=by rw[<-h2];simp
 subst h4;rw[Int.zero_add];exact turn x ρ' h3 iv
theorem TU:(10:Int) ^ Int.toNat 24=1000000000000000000000000:=by decide
theorem TR:(10:Int) ^ Int.toNat 30=1000000000000000000000000000000:=by decide
theorem MU:qw 10 24=True:=by simp only[qw,eq_iff_iff,iff_true];decide
theorem MT:qw 10 30=True:=by simp only[qw,eq_iff_iff,iff_true];decide
theorem CW:100000<=sizeLine:=by decide
end L2
namespace L2
open PySem PySem.Spec PyProof.Rows
section
variable {X:Cx} {pos:Pos} {e:Expr} {te:TD} {es:List Expr} {ts:iI}
def xh(t:TD):TD:=fun ρ Q=>t ρ fun r=>match r.val with
 | .int i=>Q (.fz (.int (-i)))
 | _=>False
theorem Co(h:PD X e te):PD X (.UnaryOp .USub e pos) (xh te):=by
 obtain⟨t,p,q⟩:=h;refine⟨_,L8 Mw p,fun ρ σ G0 H0 G H Q P E h k=>q ρ σ G0 H0 G H _ _ E h fun v H' r G' x rr hq=>?_⟩;obtain⟨G2,x2,rv,_⟩:=rr.freeze x;split at hq
 ·rename_i i e1;rw[e1] at rv;simp only[Rep] at rv;exact⟨i,rv,k _ _ _ G2 x2 (fj (je _ _ _)) hq⟩
 ·exact hq.elim
def zev:eX:=fun ds Q=>match ds with
 | [.lst es]=>Q (.ow es)
 | [.tup es]=>Q (.ow es)
 | _=>False
theorem rD:pv X (.type "list") zev:=by
 refine⟨_,Ro,fun G H vs ds Q P s rs h k=>?_⟩;unfold zev at h;split at h
 ·obtain⟨v,rfl,rv⟩:=kH rs;simp only[Rep] at rv;obtain⟨a,xs,rfl,h1,h2⟩:=rv;exact⟨a,xs,rfl,.inl (s.gH h1).sq,tf s h2 h k⟩
 ·obtain⟨v,rfl,rv⟩:=kH rs;simp only[Rep] at rv;obtain⟨a,xs,rfl,h1,h2⟩:=rv;exact⟨a,xs,rfl,.inr (s.lV h1),tf s h2 h k⟩
 ·exact h.elim
def zO:eX:=fun ds Q=>match ds with
 | [.int i]=>Q (.fz (.int i))
 | [.bl b]=>Q (.fz (.int (if b then 1 else 0)))
 | _=>False
theorem LR:pv X (.type "int") zO:=by
 refine⟨_,P1,fun G H vs ds Q P s rs h k=>?_⟩;unfold zO at h;split at h
 ·obtain⟨v,rfl,rv⟩:=kH rs;simp only[Rep] at rv;subst rv;exact .inl ⟨_,rfl,k _ _ _ G (.refl s) (fj (je _ _ _)) h⟩
 ·obtain⟨v,rfl,rv⟩:=kH rs;simp only[Rep] at rv;subst rv;exact .inr ⟨_,rfl,k _ _ _ G (.refl s) (fj (je _ _ _)) h⟩
 ·exact h.elim
noncomputable def jC:List D->Option (List Int)
 | []=>some []
 | .int b::r=>(jC r).map (b::·)
 | _=>none
theorem vU:∀{ds:List D} {bs:List Int},jC ds=some bs->ds=bs.map D.int
 | [],bs,h=>by simp[jC] at h;subst h;rfl
 | .int b::r,bs,h=>by
  simp only[jC,Option.map_eq_some_iff] at h;obtain⟨VA,h1,rfl⟩:=h;rw[vU h1];rfl
 | .non::r,bs,h=>by simp[jC] at h
 | .bl _::r,bs,h=>by simp[jC] at h
 | .str _::r,bs,h=>by simp[jC] at h
 | .tup _::r,bs,h=>by simp[jC] at h
 | .lst _::r,bs,h=>by simp[jC] at h
 | .obj _ _::r,bs,h=>by simp[jC] at h
 | .dic _::r,bs,h=>by simp[jC] at h
 | .dit _::r,bs,h=>by simp[jC] at h
 | .exc _ _::r,bs,h=>by simp[jC] at h
 | .idn _ _::r,bs,h=>by simp[jC] at h
theorem xY(bs:List Int):jC (bs.map D.int)=some bs:=by
 induction bs with
 | nil=>rfl
 | cons b r ih=>simp[jC,ih]
theorem vO{K:PySem.W.Frag}{G:Hp}:∀{bs:List Int} {vs:List V},bB K G vs (bs.map D.int)->vs=bs.map V.int
 | [],[],_=>rfl
 | b::bs,v::vs,h=>by
  simp only[au,bB,Rep] at h;rw[h.1,vO h.2];rfl
 | [],_::_,h=>by simp only[List.map_nil,bB] at h
 | _::_,[],h=>by simp only[au,bB] at h
theorem Di{vs:List Value}{ns:List Int}(hi:IntsAre vs ns):∃xs:Array (Int×Tok),vs.toArray=intItems xs/\ns=xs.toList.map (·.1):=by
 obtain⟨xs,e⟩:=hi.allInts.items;exact⟨xs,e,by rw[<-hi.numsOf,<-nums_intItems,<-e]⟩
theorem Qw(hc:X.calm=true):c8 X (.builtin "sum") (fun xs H Q=>∃(p:Addr) (ns:List Int),xs=[.ref p]/\gc X.K H p (ns.map V.int)/\Q (.int ns.sum) H):=by
 intro pins s σ H xs us Q I r h;obtain⟨p,ns,rfl,hq,q⟩:=h;obtain⟨u,rfl,ru⟩:=lQ r;cases ru;obtain⟨its,rv,pl,hz⟩:=I.list hq;obtain⟨ys,e,nN⟩:=Di (xZ rv);have hl:=pl.isList;rw[e] at hl;refine sum_intListG (I.ok.hd hc) hl fun h' tk t' hk=>?_
 have e2:preSum (numAt ys) ys.size=ns.sum:=by
  rw[preSum_eq,List.take_of_length_le (by simp),nN]
 rw[e2];exact⟨.int _,H,I.kept hk,⟨_,rfl⟩,q⟩
theorem Qv(hc:X.calm=true):c8 X (.builtin "min") (fun xs H Q=>∃(p:Addr) (ns:List Int),xs=[.ref p]/\gc X.K H p (ns.map V.int)/\ns≠[]/\∀M,M∈ns->(∀a∈ns,M<=a)->Q (.int M) H):=by
 intro pins s σ H xs us Q I r h;obtain⟨p,ns,rfl,hq,eP,q⟩:=h;obtain⟨u,rfl,ru⟩:=lQ r;cases ru;obtain⟨its,rv,pl,hz⟩:=I.list hq;obtain⟨ys,e,nN⟩:=Di (xZ rv);have hl:=pl.isList;rw[e] at hl;have i5:0<ys.size:=by
  cases yZ:ys.toList with
  | nil=>rw[nN,yZ] at eP;exact absurd rfl eP
  | cons a b=>have:ys.toList.length=b.length+1:=by rw[yZ];rfl
              rw[aG] at this;omega
 refine min_intList (I.ok.hd hc) hl i5 fun v h' tk hv hk=>?_
 obtain⟨t,rfl⟩:=intItems_at hv;obtain⟨h1,h2⟩:=argBest_lt (numAt ys) (ys.size-1);refine⟨.int _,H,I.kept hk,⟨_,rfl⟩,q _ ?_ fun a ha=>?_⟩
 ·rw[nN,numAt_eq];exact getD_mem (by rw[ae,aG];omega)
 ·rw[nN] at ha;obtain⟨j,hj,rfl⟩:=mem_getD ha;rw[ae,aG] at hj;rw[<-numAt_eq];exact h2 j (by omega)
theorem Qu(hc:X.calm=true):c8 X (.builtin "max") (fun xs H Q=>∃(p:Addr) (ns:List Int),xs=[.ref p]/\gc X.K H p (ns.map V.int)/\ns≠[]/\∀M,M∈ns->(∀a∈ns,a<=M)->Q (.int M) H):=by
 intro pins s σ H xs us Q I r h;obtain⟨p,ns,rfl,hq,eP,q⟩:=h;obtain⟨u,rfl,ru⟩:=lQ r;cases ru;obtain⟨its,rv,pl,hz⟩:=I.list hq;obtain⟨ys,e,nN⟩:=Di (xZ rv);have hl:=pl.isList;rw[e] at hl;have i5:0<ys.size:=by
  cases yZ:ys.toList with
  | nil=>rw[nN,yZ] at eP;exact absurd rfl eP
  | cons a b=>have:ys.toList.length=b.length+1:=by rw[yZ];rfl
              rw[aG] at this;omega
 refine max_intList (I.ok.hd hc) hl i5 fun v h' tk hv hk=>?_
 obtain⟨t,rfl⟩:=intItems_at hv;obtain⟨h1,h2⟩:=argBest_gt (numAt ys) (ys.size-1);refine⟨.int _,H,I.kept hk,⟨_,rfl⟩,q _ ?_ fun a ha=>?_⟩
 ·rw[nN,numAt_eq];exact getD_mem (by rw[ae,aG];omega)
 ·rw[nN] at ha;obtain⟨j,hj,rfl⟩:=mem_getD ha;rw[ae,aG] at hj;rw[<-numAt_eq];exact h2 j (by omega)
def qY:eX:=fun ds Q=>match ds with
 | [.lst es]=>match jC es with
  | some ns=>Q (.fz (.int ns.sum))
  | none=>False
 | _=>False
theorem vo(hc:X.calm=true):pv X (.builtin "sum") qY:=by
 refine⟨_,Qw hc,fun G H vs ds Q P s rs h k=>?_⟩;unfold qY at h;split at h
 ·split at h
  ·rename_i es bs hb;obtain⟨v,rfl,rv⟩:=kH rs;simp only[Rep] at rv;obtain⟨a,xs,rfl,h1,h2⟩:=rv;rw[vU hb] at h2;rw[vO h2] at h1;exact⟨a,bs,rfl,(s.gH h1).sq,k _ _ _ G (.refl s) (fj (je _ _ _)) h⟩
  ·exact h.elim
 ·exact h.elim
def sL:eX:=fun ds Q=>match ds with
 | [.lst es]=>match jC es with
  | some ns=>ns≠[]/\∀M,M∈ns->(∀a∈ns,M<=a)->Q (.fz (.int M))
  | none=>False
 | [.int i,.int j]=>Q (.fz (.int (if j<i then j else i)))
 | _=>False
def vi:eX:=fun ds Q=>match ds with
 | [.lst es]=>match jC es with
  | some ns=>ns≠[]/\∀M,M∈ns->(∀a∈ns,a<=M)->Q (.fz (.int M))
  | none=>False
 | [.int i,.int j]=>Q (.fz (.int (if j>i then j else i)))
 | _=>False
theorem BQ(hc:X.calm=true):pv X (.builtin "min") sL:=by
 refine⟨_,(Qv hc).or (P2 hc),fun G H vs ds Q P s rs h k=>?_⟩;unfold sL at h;split at h
 ·split at h
  ·rename_i es bs hb;obtain⟨v,rfl,rv⟩:=kH rs;simp only[Rep] at rv;obtain⟨a,xs,rfl,h1,h2⟩:=rv;rw[vU hb] at h2;rw[vO h2] at h1;exact .inl ⟨a,bs,rfl,(s.gH h1).sq,h.1,fun M h3 h4=>k _ _ _ G (.refl s) (fj (je _ _ _)) (h.2 M h3 h4)⟩
  ·exact h.elim
 ·obtain⟨v,u,rfl,rv,ru⟩:=BS rs;simp only[Rep] at rv ru;subst rv ru;exact .inr ⟨_,_,rfl,k _ _ _ G (.refl s) (fj (je _ _ _)) h⟩
 ·exact h.elim
theorem Gh(hc:X.calm=true):pv X (.builtin "max") vi:=by
 refine⟨_,(Qu hc).or (P4 hc),fun G H vs ds Q P s rs h k=>?_⟩;unfold vi at h;split at h
 ·split at h
  ·rename_i es bs hb;obtain⟨v,rfl,rv⟩:=kH rs;simp only[Rep] at rv;obtain⟨a,xs,rfl,h1,h2⟩:=rv;rw[vU hb] at h2;rw[vO h2] at h1;exact .inl ⟨a,bs,rfl,(s.gH h1).sq,h.1,fun M h3 h4=>k _ _ _ G (.refl s) (fj (je _ _ _)) (h.2 M h3 h4)⟩
  ·exact h.elim
 ·obtain⟨v,u,rfl,rv,ru⟩:=BS rs;simp only[Rep] at rv ru;subst rv ru;exact .inr ⟨_,_,rfl,k _ _ _ G (.refl s) (fj (je _ _ _)) h⟩
 ·exact h.elim
noncomputable def kI:List D->Option (List Str)
 | []=>some []
 | .str b::r=>(kI r).map (b::·)
 | _=>none
theorem Dh:∀{ds:List D} {bs:List Str},kI ds=some bs->ds=bs.map D.str
 | [],bs,h=>by simp[kI] at h;subst h;rfl
 | .str b::r,bs,h=>by
  simp only[kI,Option.map_eq_some_iff] at h;obtain⟨VA,h1,rfl⟩:=h;rw[Dh h1];rfl
 | .non::r,bs,h=>by simp[kI] at h
 | .bl _::r,bs,h=>by simp[kI] at h
 | .int _::r,bs,h=>by simp[kI] at h
 | .tup _::r,bs,h=>by simp[kI] at h
 | .lst _::r,bs,h=>by simp[kI] at h
 | .obj _ _::r,bs,h=>by simp[kI] at h
 | .dic _::r,bs,h=>by simp[kI] at h
 | .dit _::r,bs,h=>by simp[kI] at h
 | .exc _ _::r,bs,h=>by simp[kI] at h
 | .idn _ _::r,bs,h=>by simp[kI] at h
theorem AH(bs:List Str):kI (bs.map D.str)=some bs:=by
 induction bs with
 | nil=>rfl
 | cons b r ih=>simp[kI,ih]
theorem CV{K:PySem.W.Frag}{G:Hp}:∀{bs:List Str} {vs:List V},bB K G vs (bs.map D.str)->vs=bs.map V.str
 | [],[],_=>rfl
 | b::bs,v::vs,h=>by
  simp only[au,bB,Rep] at h;rw[h.1,CV h.2];rfl
 | [],_::_,h=>by simp only[List.map_nil,bB] at h
 | _::_,[],h=>by simp only[au,bB] at h
theorem IF{K:PySem.W.Frag}{G:Hp}(bs:List Str):bB K G (bs.map V.str) (bs.map D.str):=by
 induction bs with
 | nil=>exact bB.nil
 | cons b r ih=>exact bB.cons (vG _ _ _) ih
theorem Jj{ss:List Str}:∀{us:List Value},Vals (ss.map V.str) us->StrsAre us ss:=by
 induction ss with
 | nil=>
  intro us h;cases h;exact .nil
 | cons n r ih=>
  intro us h;cases h with
  | cons a b=>
   obtain⟨t,rfl⟩:=a;exact .cons _ _ (ih b)
theorem C1:∀{vs:List Value} {ss:List Str},StrsAre vs ss->Vals (ss.map V.str) vs
 | _,_,.nil=>.nil
 | _,_,.cons _ _ h=>.cons ⟨_,rfl⟩ (C1 h)
theorem m7:c8 X (.builtin "sorted") (fun xs H Q=>∃(p:Addr) (ss:List Str),xs=[.ref p]/\gc X.K H p (ss.map V.str)/\ss.length<64/\∀jr:List Str,jr.Perm ss->sortedS jr=true->∀l,H l=none->Q (.ref l) (upd H l (.lst (jr.map V.str)))):=by
 intro pins s σ H xs us Q I r h;obtain⟨p,ss,rfl,hq,wA,q⟩:=h;obtain⟨u,rfl,ru⟩:=lQ r;cases ru;obtain⟨its,rv,pl,hz⟩:=I.list hq;have hl:its.length=ss.length:=by rw[<-rv.length,ae]
 refine sorted_strs pl.isList (Jj rv) (by omega) fun out jr a1 a2 a3=>?_
 obtain⟨en,he⟩:=sortedAll_at s.heap its out;have hf:H (s.heap.objs.size+1)=none:=I.cB.fresh (bp _);refine⟨.ref (s.heap.objs.size+1),_,I.laid (a:=s.heap.objs.size+1) (o:=.lst (jr.map V.str)) (t':=s.toks) (fun b o e=>sortedAll_old e) (bp _) ?_,rfl,q jr a2 a3 _ hf⟩;refine⟨by rw[ae,a2.length_eq];have:=CW;omega,out.toList,en,C1 a1,?_⟩;rw[Array.toArray_toList];exact he
theorem QG:c8 X (.builtin "sorted") (fun xs H Q=>∃(p:Addr) (ns:List Int),xs=[.ref p]/\gc X.K H p (ns.map V.int)/\ns.length<64/\∀uH:List Int,uH.Perm ns->uH.Pairwise (·<=·)->∀l,H l=none->Q (.ref l) (upd H l (.lst (uH.map V.int)))):=by
 intro pins s σ H xs us Q I r h;obtain⟨p,ss,rfl,hq,wA,q⟩:=h;obtain⟨u,rfl,ru⟩:=lQ r;cases ru;obtain⟨its,rv,pl,hz⟩:=I.list hq;have hl:its.length=ss.length:=by rw[<-rv.length,ae]
 refine sorted_ints pl.isList (xZ rv) (by omega) fun out jr a1 a2 a3=>?_
 obtain⟨en,he⟩:=sortedAll_at s.heap its out;have hf:H (s.heap.objs.size+1)=none:=I.cB.fresh (bp _);refine⟨.ref (s.heap.objs.size+1),_,I.laid (a:=s.heap.objs.size+1) (o:=.lst (jr.map V.int)) (t':=s.toks) (fun b o e=>sortedAll_old e) (bp _) ?_,rfl,q jr a2 a3 _ hf⟩;refine⟨by rw[ae,a2.length_eq];have:=CW;omega,out.toList,en,C6 a1,?_⟩;rw[Array.toArray_toList];exact he
def oV:eX:=fun ds Q=>match ds with
 | [.lst es]=>match kI es with
  | some ss=>ss.length<64/\∀jr:List Str,jr.Perm ss->sortedS jr=true->Q (.ow (jr.map D.str))
  | none=>match jC es with
   | some ns=>ns.length<64/\∀uH:List Int,uH.Perm ns->uH.Pairwise (·<=·)->Q (.ow (uH.map D.int))
   | none=>False
 | _=>False
theorem Qt{K:PySem.W.Frag}{G:Hp}(bs:List Int):bB K G (bs.map V.int) (bs.map D.int):=by
 induction bs with
 | nil=>exact bB.nil
 | cons b r ih=>exact bB.cons (je _ _ _) ih
theorem xQ(_:X.calm=true):pv X (.builtin "sorted") oV:=by
 refine⟨_,m7.or QG,fun G H vs ds Q P s rs h k=>?_⟩;unfold oV at h;split at h
 ·split at h
  ·rename_i es bs hb;obtain⟨v,rfl,rv⟩:=kH rs;simp only[Rep] at rv;obtain⟨a,xs,rfl,h1,h2⟩:=rv;rw[Dh hb] at h2;rw[CV h2] at h1;exact .inl ⟨a,bs,rfl,(s.gH h1).sq,h.1,fun jr p1 p2=>tf s (IF jr) (h.2 jr p1 p2) k⟩
  ·split at h
   ·rename_i es _ bs hb;obtain⟨v,rfl,rv⟩:=kH rs;simp only[Rep] at rv;obtain⟨a,xs,rfl,h1,h2⟩:=rv;rw[vU hb] at h2;rw[vO h2] at h1;exact .inr ⟨a,bs,rfl,(s.gH h1).sq,h.1,fun jr p1 p2=>tf s (Qt jr) (h.2 jr p1 p2) k⟩
   ·exact h.elim
 ·exact h.elim
def KN(X:Cx)(id:String)(o:D->List D->(R->Prop)->Prop):Prop:=∃r,KL X id r/\∀(G H:Hp) (x:V) (d:D) (vs:List V) (ds:List D) (Q:R->Prop) (P:VK),bL G H->Rep X.K G x d->bB X.K G vs ds->o d ds Q->
 (∀v H' r' G',Ext G H G' H'->de X.K G' H' H v r'->Q r'->P v H')->r x vs H P
def dM(T:String)(o:D->List D->(R->Prop)->Prop)(te:TD)(ts:iI):TD:=fun ρ Q=>te ρ fun r=>pJ r.val=T/\ts ρ fun ds=>o r.val ds Q
theorem Nm{K:PySem.W.Frag}{G H:Hp}{x:V}{d:D}{T:String}(s:bL G H)(r:Rep K G x d)(h:pJ d=T)(hT:T="list"\/T="str"):DQ K T x H:=by
 cases d with
 | str z=>simp only[Rep] at r;subst r;exact h.symm
 | lst ds=>
  simp only[Rep] at r;obtain⟨a,xs,rfl,h1,_⟩:=r;exact .inl ⟨h.symm,xs,(s.gH h1).sq⟩
 | non=>subst h;rcases hT with h | h<;>simp[pJ] at h
 | bl=>subst h;rcases hT with h | h<;>simp[pJ] at h
 | int=>subst h;rcases hT with h | h<;>simp[pJ] at h
 | tup=>subst h;rcases hT with h | h<;>simp[pJ] at h
 | obj=>subst h;rcases hT with h | h<;>simp[pJ] at h
 | dic=>subst h;rcases hT with h | h<;>simp[pJ] at h
 | dit=>subst h;rcases hT with h | h<;>simp[pJ] at h
 | exc=>subst h;rcases hT with h | h<;>simp[pJ] at h
 | idn=>subst h;rcases hT with h | h<;>simp[pJ] at h
theorem HD{T id:String}{name:Str}{p':Pos}{e1:Expr}{o:D->List D->(R->Prop)->Prop}(hm:KN X id o)(hT:T="list"\/T="str")(pa:PlainAttrs T)(slot:Slot T name id)(Et:typeOf (.builtin id)=pure (.type "method_descriptor"))
  (he:PD X e te) (ha:lb X (e1::es) ts) (qc:attributeBase e name X.env (eval e X.env)=eval e X.env:=by rfl)
  (uW:((backTo pos (starEach (e1::es) X.env)).all (fun x=>!x.1)&&(backToKw pos (keywordEach [] X.env)).all (fun x=>x.1.isSome)
   && decide ((e1::es).length+([]:List Keyword).length+(if ([]:List Keyword).isEmpty then 0 else 1)<30))=true:=by rfl)
  (pV:(p'.endLine==pos.line)=true:=by rfl) (hs:starEach (e1::es) X.env=(false,eval e1 X.env)::starEach es X.env:=by rfl) (mW:(backTo pos (starEach es X.env)).any (·.1)=false:=by rfl) :
  PD X (.Call (.Attribute e name p') (e1::es) [] pos) (dM T o te ts):=by
 obtain⟨r,hr,oq⟩:=hm;obtain⟨t1,p1,q1⟩:=he;obtain⟨t2,p2,q2⟩:=ha;refine⟨_,BV pa slot Et hr p1 p2 qc uW pV hs mW,fun ρ σ G0 H0 G H Q P E h k=>q1 ρ σ G0 H0 G H _ _ E h fun v H' r1 G' x rr hq=>?_⟩;obtain⟨G2,x2,rv,_⟩:=rr.freeze x;refine⟨Nm x2.s rv hq.1 hT,q2 ρ σ G0 H0 G2 H' _ _ (E.ext x2) hq.2 fun vs H3 ds G3 x3 rs gN=>?_⟩;exact oq G3 H3 v r1.val vs ds Q P x3.s (rv.mono x3.g) rs gN fun w' H4 r4 G4 x4 TH q4=>k w' H4 r4 G4 ((x2.trans x3).trans x4) (TH.ef (x2.trans x3).h) q4
noncomputable def mF(d:D)(ds:List D):Nat:=ds.countP fun e=>cW e d
def xt:D->List D->(R->Prop)->Prop:=fun d ds Q=>match d,ds with
 | .lst es,[x]=>dg 8 x/\(∀e∈es,dg 8 e)/\Q (.fz (.int (mF x es)))
 | _,_=>False
theorem HC{pins:List (Addr×Obj)}{σ:St}{H:Hp}{s:Shared}(I:Inv X pins σ H s){d:D}:∀{es:List D} {vs:List V} {us:List Value},(∀e∈es,dg 8 e)->Vals vs us->bB X.K H vs es->us.countP (lK X H d)=mF d es
 | [],_,_,_,rv,re=>by
  cases rv
  ·rfl
  ·simp only[bB] at re
 | e::es,_,_,h,rv,re=>by
  cases rv with
  | nil=>simp only[bB] at re
  | cons r t=>
   simp only[bB] at re;unfold mF;rw[List.countP_cons,List.countP_cons,Cn I (h e (by simp)) r re.1,HC I (fun x hx=>h x (by simp[hx])) t re.2];rfl
theorem HB(hu:X.A.units+64<cLine):KN X "list.count" xt:=by
 refine⟨fun x vs H Q=>∃p d es ws y,x=.ref p/\vs=[y]/\gc X.K H p ws/\dg 8 d/\(∀e∈es,dg 8 e)/\Rep X.K H y d/\bB X.K H ws es/\Q (.int (mF d es)) H,fun pins s σ H x xs v us Q I rx rs h=>?_,fun G H x d vs ds Q P s rx rs h k=>?_⟩
 ·obtain⟨p,d,es,ws,y,rfl,rfl,hq,hd,he,rd,re,q⟩:=h;cases rx;obtain⟨u,rfl,ru⟩:=lQ rs;obtain⟨its,rv,pl,hz⟩:=I.list hq;obtain⟨⟨cls,dd,data,sl⟩,n,ho,hc,VX,Kh⟩:=id pl;simp only at hc Kh;subst hc Kh;refine call_meets PySem.F.slot_list_count ⟨_,ho,rfl⟩ PySem.F.entry_list_count (PySem.F.args_list_count_2 _ _) (SeqAt.list_countAt p its.toArray n dd sl u (lK X H d)) ⟨ho,xR (A:=X.A.in1) I hd (by show X.A.units+1+8<cLine;omega) rd ru he rv re,?_⟩;rw[show its.toArray.toList=its from rfl,HC I he rv re];exact⟨.int _,H,I.tok _,⟨_,rfl⟩,q⟩
 ·unfold xt at h;split at h
  ·obtain⟨y,rfl,ry⟩:=kH rs;simp only[Rep] at rx;obtain⟨a,xs,rfl,h1,h2⟩:=rx;exact⟨a,_,_,xs,y,rfl,rfl,(s.gH h1).sq,h.1,h.2.1,ry.mono s,h2.mono s,k _ _ _ G (.refl s) (fj (je _ _ _)) h.2.2⟩
  ·exact h.elim
end
end L2
namespace L2
open PySem PySem.Spec PyProof.Rows
theorem Ji{prog:Program}{w:World}{A:Around}{E:Value->Shared->Prop}{it l:Addr}{items:Array Value}(eP:l≠it) :
  ∀(n i:Nat) (s:Shared) (Q:List Value->Shared->Prop),s.heap.IsListIter it l i->s.heap.IsList l items->i+n<=items.size->
   (∀h':Heap,h'.IsListIter it l (i+n)->Heap.SameBut it s.heap h'->Q ((items.toList.drop i).take n) { s with heap:=h' })->wpAny (model prog w) A (draw (.ref it) n) Q E s
 | 0,i,s,Q,st,hl,hn,q=>by
  rw[draw.eq_1];exact ag (by have:=q s.heap st ⟨rfl,fun _ _=>rfl⟩;simpa using this)
 | n+1,i,s,Q,st,hl,hn,q=>by
  rw[draw.eq_2];have hi:i<items.size:=by omega
  refine aa (wpAny_pyNext_list_item st hl (x:=items[i]) (by simp[hi]) fun h1 uz sb=>?_);dsimp only;have pW:h1.IsList l items:=by
   obtain⟨o,e,c⟩:=hl;exact⟨o,(sb.2 l eP).trans e,c⟩
  refine aa (aQ (Ji eP n (i+1) { s with heap:=h1 } _ uz pW (by omega) fun h2 o3 uB=>ag ?_));have:=q h2 (by rw[show i+(n+1)=i+1+n by omega];exact o3) ⟨uB.1.trans sb.1,fun b hb=>(uB.2 b hb).trans (sb.2 b hb)⟩;have e:(items.toList.drop i).take (n+1)=items[i]::(items.toList.drop (i+1)).take n:=by
   rw[List.drop_eq_getElem_cons (by simpa using hi)];simp
  rw[e] at this;exact this
theorem R6{prog:Program}{w:World}{A:Around}{E:Value->Shared->Prop}{s:Shared}{l:Addr}{items:Array Value}{Q:List Value->Shared->Prop}(hd:A.handled=none)(hl:s.heap.IsList l items)
  (q:∀h':Heap,Heap.ExtBut s.heap.objs.size s.heap h'->Q items.toList { s with heap:=h' }):wpAny (model prog w) A (unpackItems (.ref l) items.size none) Q E s:=by
 unfold unpackItems;have eR:l<s.heap.objs.size:=by obtain⟨o,e,_⟩:=hl;exact aq e
 have ty:s.TypeIs (.ref l) "list":=by obtain⟨o,e,c,_⟩:=hl;exact⟨o,e,c⟩
 refine aa ?_;unfold notIterableAtAll;refine aa (wpAny_specialOf ty F.slot_list_iter.lookup ?_);rw[if_pos (show((some (Value.builtin "list.__iter__")).isSome=true) from rfl)];refine ag ?_;rw[if_neg az];refine aa (aQ (wpAny_pyIter_list hl ?_));dsimp only;have pW:(s.heap.push { cls:=Value.type "list_iterator",data:=Data.fields #[Value.ref l,Value.int 0 0] }).IsList l items:=by
  obtain⟨o,e,c⟩:=hl;exact⟨o,af _ e,c⟩
 refine aa (aQ (Ji (aD eR) items.size 0 _ _ ⟨_,ax _ rfl,rfl,rfl⟩ pW (by omega) fun h2 o3 uB=>?_));have EV:h2.IsList l items:=by
  obtain⟨o,e,c⟩:=pW;exact⟨o,(uB.2 l (aD eR)).trans e,c⟩
 have el:List.take items.size (List.drop 0 items.toList)=items.toList:=by rw[List.drop_zero,show items.size=items.toList.length by simp,List.take_length]
 rw[el,if_neg (by simp)];refine aa (aQ (wpAny_pyNext_list_end hd o3 EV (by simp) fun h3 eb=>?_));rw[if_neg (by simp)];refine ag (q h3 fun b o hb e=>eb b o hb ?_);rw[uB.2 b hb];exact af _ e
section
variable {X:Cx} {pos:Pos}
def Lz(K:PySem.W.Frag)(n:Nat)(t:sE):TG:=fun v σ H Q=>∃a xs,v=.ref a/\gc K H a xs/\xs.length=n/\t xs σ H Q
theorem Nl{es:List Expr}{k:Nat}{t:sE}{n:Nat}(hc:X.calm=true)(h:wH X es t)
  (hn:(assignEach es X.env).length=n:=by rfl) (gI:(assignEach es X.env).findIdx? (·.1)=none:=by rfl):PG X (.Tuple es k pos) (Lz X.K n t):=by
 intro pins s σ H v u Q I r hw;obtain⟨a,xs,e1,hq,hl,hw⟩:=hw;subst e1;cases r;obtain⟨its,rv,pl,hz⟩:=I.list hq;rw[assign_Tuple];refine aa (wpAny_standAt ?_);unfold unpack;have hlen:(assignEach es X.env).length=its.toArray.size:=by rw[hn,<-hl,rv.length];simp
 rw[hlen,gI];refine aa (aQ (R6 (I.ok.hd hc) pl.isList fun h' hx=>?_));have I1:Inv X pins σ H { s with heap:=h' }:=I.kept (t':=s.toks) fun b o e=>hx b o (aD (aq e)) e
 exact h pins _ σ H xs _ Q I1 (by simpa using rv) hw
def vh(n:Nat)(t:nU):ij:=fun d ρ Q=>match d with
 | .lst ds=>ds.length=n/\t ds ρ Q
 | _=>False
theorem HA{es:List Expr}{k:Nat}{t:nU}{n:Nat}(hc:X.calm=true)(h:xi X es t)(hn:(assignEach es X.env).length=n:=by rfl)(gI:(assignEach es X.env).findIdx? (·.1)=none:=by rfl):qo X (.Tuple es k pos) (vh n t):=by
 obtain⟨t1,p1,q1⟩:=h;refine⟨_,Nl hc p1 hn gI,fun ρ σ G0 H0 G H d v Q P E r h k=>?_⟩;unfold vh at h;split at h
 ·simp only[Rep] at r;obtain⟨a,xs,rfl,hq,rs⟩:=r;exact⟨a,xs,rfl,(E.e.s.gH hq).sq,by rw[rs.length];exact h.1,q1 ρ σ G0 H0 G H _ xs Q P E rs h.2 k⟩
 ·exact h.elim
end
theorem OS{acc:List Int}{k:Int}:∀a,a∈step_dedup acc k↔a∈acc\/a=k:=by
 intro a;unfold step_dedup;split
 ·rename_i h;constructor
  ·exact .inl
  ·rintro(h' | rfl)
   ·exact h'
   ·simpa using h
 ·simp
theorem QF{acc:List Int}{k:Int}(h:acc.Nodup):(step_dedup acc k).Nodup:=by
 unfold step_dedup;split
 ·exact h
 ·rename_i hn;rw[List.nodup_append];refine⟨h,by simp,fun a ha b hb=>?_⟩;have:b=k:=by simpa using hb
  subst this;rintro rfl;exact hn (by simpa using ha)
theorem QE(l acc:List Int)(h:acc.Nodup):(l.foldl step_dedup acc).Nodup/\∀a,a∈l.foldl step_dedup acc↔a∈acc\/a∈l:=by
 induction l generalizing acc with
 | nil=>exact⟨h,fun a=>by simp⟩
 | cons k r ih=>
  obtain⟨h1,h2⟩:=ih (step_dedup acc k) (QF h);refine⟨h1,fun a=>?_⟩;rw[List.foldl_cons,h2 a,OS a,ah,or_assoc]
theorem RJ(ns:List Int):firstMet (fun i=>ns.getD i 0) ns.length=ns.foldl step_dedup []:=by
 unfold firstMet;congr 1
 apply List.ext_getElem
 ·simp
 ·intro i h1 h2;simp[List.getD,h2]
section
variable {X:Cx} {pos:Pos} {e:Expr} {te:TD} {es:List Expr} {ts:iI}
noncomputable def B7(ns:List Int):List Int:=ns.foldl step_dedup []
theorem Pz(hc:X.calm=true):c8 X (.type "set") (fun xs H Q=>∃(p:Addr) (ns:List Int),xs=[.ref p]/\gc X.K H p (ns.map V.int)/\ns.length<4000/\∀q,H q=none->∀S:Int->Bool,Q (.ref q) (upd H q (.set S (B7 ns).length))):=by
 intro pins s σ H xs us Q I r h;obtain⟨p,ns,rfl,hq,i5,q⟩:=h;obtain⟨u,rfl,ru⟩:=lQ r;cases ru;obtain⟨its,rv,pl,hz⟩:=I.list hq;have hl:its.toArray.size=ns.length:=by rw[ar,<-rv.length,ae]
 refine call_set_list (I.ok.hd hc) pl.isList (by simpa using xZ rv) (by rw[hl];have:scanBound=4096:=(by decide);omega) fun h' tk hs hk=>?_
 have hf:H s.heap.objs.size=none:=I.cB.fresh (aw _);rw[hl] at hs;refine⟨.ref s.heap.objs.size,_,I.laid (a:=s.heap.objs.size) (t':=tk) (fun b o e=>hk b o (aq e) e) (aw _) (o:=.set _ _) hs,rfl,?_⟩;rw[RJ];exact q _ hf _
theorem Py:c8 X (.builtin "len") (fun xs H Q=>∃(p:Addr) (S:Int->Bool) (n:Nat),xs=[.ref p]/\H p=some (.set S n)/\Q (.int n) H):=by
 intro pins s σ H xs us Q I r h;obtain⟨p,S,n,rfl,hp,q⟩:=h;obtain⟨u,rfl,ru⟩:=lQ r;cases ru;obtain⟨o,es,ep,t,h1,h2,h3,h4,h5,h6,h7,rfl⟩:=(show s.heap.SetOf (intKind X.prog X.w) p S n from I.cB p _ hp)
 refine call_len_set h1 h2 h3 h7 ?_ ⟨.int _,H,I.tok _,⟨_,rfl⟩,q⟩;have:scanBound=4096:=by decide
 have h8:es.size<4096:=by omega
 exact Int.ofNat_lt.mpr (Nat.lt_trans h8 (by decide))
theorem IE:bootBuiltins "set"=some (.type "set"):=by rfl
def As:eX:=fun ds Q=>match ds with
 | [.lst es]=>match jC es with
  | some ns=>ns.length<4000/\∀l:List Int,l.Nodup->(∀k,k∈l↔k∈ns)->Q (.fz (.int l.length))
  | none=>False
 | _=>False
theorem Px{p1 p2 fQ:Pos}(hc:X.calm=true)(pU:X.mg "len"=none)(jJ:X.mg "set"=none)(ha:lb X [e] ts)(zm:Gl X "len":=by rfl)(sk:Gl X "set":=by rfl)
  (he:starEach [e] X.env=(false,eval e X.env)::starEach [] X.env:=by rfl) (qM:starEach [.Call (.Name "set" p2) [e] [] fQ] X.env=(false,eval (.Call (.Name "set" p2) [e] [] fQ) X.env)::starEach [] X.env:=by rfl):PD X (.Call (.Name "len" p1) [.Call (.Name "set" p2) [e] [] fQ] [] pos) (ek As ts):=by
 obtain⟨t,pp,q⟩:=ha;refine⟨_,vQ Py zm pU boot_len (mK (IJ (Pz hc) sk jJ IE pp (by decide) (by decide) he rfl) pE qM) (by decide) (by decide) qM rfl,fun ρ σ G0 H0 G H Q P E h k=>?_⟩;refine q ρ σ G0 H0 G H _ _ E h fun vs H' ds G' x rs hq=>?_
 unfold As at hq;split at hq
 ·split at hq
  ·rename_i es ns hn;obtain⟨v,rfl,rv⟩:=kH rs;simp only[Rep] at rv;obtain⟨a,xs,rfl,h1,h2⟩:=rv;rw[vU hn] at h2;rw[vO h2] at h1;refine⟨a,ns,rfl,(x.s.gH h1).sq,hq.1,fun q' kY S=>⟨q',S,_,rfl,gB,?_⟩⟩;obtain⟨f1,f2⟩:=QE ns [] List.nodup_nil;exact k _ _ _ G' (x.trans (.own x.s kY)) (fj (je _ _ _)) (hq.2 (B7 ns) f1 fun k=>by rw[B7,f2];simp)
  ·exact hq.elim
 ·exact hq.elim
theorem cE.look{K:PySem.W.Frag}{H:Hp}{f:Str}:∀{gs:List (Str×V)} {fs:List (Str×D)} {d:D},cE K H gs fs->fs.lookup f=some d->∃v,gs.lookup f=some v/\Rep K H v d
 | [],[],d,_,h=>by simp at h
 | (x,v)::gs,(y,d')::fs,d,r,h=>by
  simp only[cE] at r;obtain⟨⟨rfl,r1⟩,r2⟩:=r;rw[List.lookup_cons] at h ⊢;cases hb:f==x with
  | true=>rw[hb] at h;cases h;exact⟨v,rfl,r1⟩
  | false=>rw[hb] at h;exact cE.look r2 h
 | [],_::_,_,r,_=>by simp only[cE] at r
 | _::_,[],_,r,_=>by simp only[cE] at r
theorem HY{f:Str}:∀{fs:List (Str×D)} {d:D},fs.lookup f=some d->∃p∈fs,p.1=f
 | [],d,h=>by simp at h
 | (y,d')::fs,d,h=>by
  rw[List.lookup_cons] at h;cases hb:f==y with
  | true=>exact⟨(y,d'),by simp,(beq_iff_eq.mp hb).symm⟩
  | false=>
   rw[hb] at h;obtain⟨p,h1,h2⟩:=HY h;exact⟨p,by simp[h1],h2⟩
def ib(f:Str)(te:TD):TD:=fun ρ Q=>te ρ fun r=>match r.val with
 | .obj _ fs=>∃d,fs.lookup f=some d/\Q (.fz d)
 | _=>False
theorem jx{f:Str}(he:PD X e te)(hb:attributeBase e f X.env (eval e X.env)=eval e X.env:=by rfl):PD X (.Attribute e f pos) (ib f te):=by
 obtain⟨t,p,q⟩:=he;refine⟨_,Mu p hb,fun ρ σ G0 H0 G H Q P E h k=>q ρ σ G0 H0 G H _ _ E h fun v H' r G' x rr hq=>?_⟩;obtain⟨G2,x2,rv,_⟩:=rr.freeze x;split at hq
 ·rename_i cn fs e1;rw[e1] at rv;simp only[Rep] at rv;obtain⟨a,C,dx,gs,rfl,h1,h2,h3,h4⟩:=rv;obtain⟨d,hd,hq⟩:=hq;obtain⟨v,hv,rv⟩:=h4.look hd;obtain⟨pr,hp,rfl⟩:=HY hd;exact⟨a,C,dx,gs,v,rfl,x2.s _ _ h1,h2.cls,h3 pr hp,hv,k _ _ _ G2 x2 (fj rv) hq⟩
 ·exact hq.elim
noncomputable def vg(f:Str)(v:D):List (Str×D)->List (Str×D)
 | []=>[(f,v)]
 | (g,x)::r=>if g=f then(g,v)::r else(g,x)::vg f v r
theorem cE.put{K:PySem.W.Frag}{H:Hp}{f:Str}{v:V}{d:D}(rv:Rep K H v d):∀{gs:List (Str×V)} {fs:List (Str×D)},cE K H gs fs->cE K H (kF f v gs) (vg f d fs)
 | [],[],_=>by simp only[kF,vg,cE,and_true,true_and];exact rv
 | (x,u)::gs,(y,d')::fs,r=>by
  simp only[cE] at r;obtain⟨⟨rfl,r1⟩,r2⟩:=r;simp only[kF,vg];split
  ·simp only[cE,true_and];exact⟨rv,r2⟩
  ·simp only[cE,true_and];exact⟨r1,cE.put rv r2⟩
 | [],_::_,r=>by simp only[cE] at r
 | _::_,[],r=>by simp only[cE] at r
theorem cE.length{K:PySem.W.Frag}{H:Hp}:∀{gs:List (Str×V)} {fs:List (Str×D)},cE K H gs fs->gs.length=fs.length
 | [],[],_=>rfl
 | (x,u)::gs,(y,d')::fs,r=>by
  simp only[cE] at r;simp[cE.length r.2]
 | [],_::_,r=>by simp only[cE] at r
 | _::_,[],r=>by simp only[cE] at r
structure Making (K:PySem.W.Frag) (C:Addr) (x dx:Addr) (G0 H0:Hp) (ρ:Ev) (σ:St) (G H:Hp) (fs:List (Str×D)) (gs:List (Str×V)):Prop where
 e:cF K G0 H0 ρ σ G H
 sl:σ[0]?=some (some (.ref x))
 hx:H x=some (.ins C dx gs)
 lZ:H dx=some (.own x)
 gx:G x=none
 zB:G dx=none
 r:cE K G gs fs
theorem Making.ext{K:PySem.W.Frag}{C x dx:Addr}{G0 H0:Hp}{ρ:Ev}{σ:St}{G H G' H':Hp}{fs:List (Str×D)}{gs:List (Str×V)}(M:Making K C x dx G0 H0 ρ σ G H fs gs)(y:Ext G H G' H'):Making K C x dx G0 H0 ρ σ G' H' fs gs:=
 ⟨M.e.ext y,M.sl,y.h _ _ M.hx,y.h _ _ M.lZ,y.n _ M.gx (by rw[M.hx];exact nofun),y.n _ M.zB (by rw[M.lZ];exact nofun),cE.mono y.g _ _ M.r⟩
noncomputable abbrev vc:=Ev->List (Str×D)->(List (Str×D)->Prop)->Prop
def Bz(X:Cx)(C:Addr)(jo:List Stmt)(t:vc):Prop:=∃tt,la X jo tt/\∀(x dx:Addr) (ρ:Ev) (σ:St) (G0 H0 G H:Hp) (fs:List (Str×D)) (gs:List (Str×V)) (Q:List (Str×D)->Prop) (E:Ends),H0 x=none->H0 dx=none->dx≠x->(∀i o,gt ρ i≠.ov o)->
 Making X.K C x dx G0 H0 ρ σ G H fs gs->t ρ fs Q->(∀cc G' H' o7 Vm,Making X.K C x dx G0 H0 ρ cc G' H' o7 Vm->Q o7->E.nx cc H')->tt E σ H
def BK:vc:=fun _ fs Q=>Q fs
def qX(f:Str)(te:TD)(u:vc):vc:=fun ρ fs Q=>te ρ fun r=>fs.length<1000/\u ρ (vg f r.val fs) Q
theorem Nk{C:Addr}:Bz X C [] BK:=⟨_,Hr,fun x dx ρ σ G0 H0 G H fs gs Q E _ _ _ _ M h k=>k σ G H fs gs M h⟩
theorem uk{C:Addr}{f x:Str}{p1 p2:Pos}{jo:List Stmt}{u:vc}(c:ua X.K C)(n:cO X.K C f)(he:PD X e te)(hr:Bz X C jo u)(hN:X.N[0]?=some x:=by rfl)(hv:l8 X.env.scope x:=by first | exact Or.inl rfl | exact Or.inr (Or.inl rfl) | exact Or.inr (Or.inr rfl))
  (hs:swapsWith e (some (.Attribute (.Name x p1) f p2)) pos.line X.env=pure false:=by rfl) (hd:(x==("__debug__":Str))=false:=by decide) (iO:(x==("__classdict__":Str))=false:=by decide) :
  Bz X C (.Assign [.Attribute (.Name x p1) f p2] e pos::jo) (qX f te u):=by
 obtain⟨t1,h1,q1⟩:=he;obtain⟨t2,h2,q2⟩:=hr;refine⟨_,xN (Mt (oR hN hv hd iO) h1 hs) h2,fun x dx ρ σ G0 H0 G H fs gs Q E z1 z2 z3 z4 M h k=>?_⟩;refine q1 ρ σ G0 H0 G H _ _ M.e h fun v H' r G' y rr hq=>?_
 obtain⟨G2,y2,rv,_⟩:=rr.freeze y;have M2:=M.ext y2;refine⟨_,M.sl,x,C,dx,gs,rfl,M2.hx,c,n,by rw[M.r.length];exact hq.1,?_⟩;refine q2 x dx ρ σ G0 H0 G2 _ (vg f r.val fs) (kF f v gs) Q E z1 z2 z3 z4 ?_ hq.2 k;refine⟨⟨⟨M2.e.e.g,fun b o e=>by rw[cN (gX e z1)];exact M2.e.e.h b o e,fun b o e=>by rw[cN (gX e M2.gx)];exact M2.e.e.s b o e,M2.e.e.n⟩,M2.e.len,M2.e.fz,fun i ds h=>?_,M2.e.dj,?_⟩,M2.sl,gB,by rw[cN z3];exact M2.lZ,M2.gx,M2.zB,M2.r.put rv⟩
 ·obtain⟨p,xs,b1,b2,b3,b4,b5⟩:=M2.e.ow i ds h;exact⟨p,xs,b1,by rw[cN (LC b2 M2.hx (by simp))];exact b2,b3,b4,b5⟩
 ·obtain⟨own,o1,o2⟩:=M2.e.on;exact⟨own,o1,fun i o h=>(z4 i o h).elim⟩
end
def KO(K:PySem.W.Frag)(C:Addr)(n:Nat)(t:eX):Sp:=fun vs H Q _=>∃x dx H1 G ds yz Qr,vs=.ref x::yz/\H=upd (upd H1 dx (.own x)) x (.ins C dx [])/\H1 x=none/\H1 dx=none/\dx≠x/\bL G H1/\bB K G yz ds/\ds.length=n/\t ds Qr/\
 ∀H' r G',Ext G H1 G' H'->de K G' H' H1 (.ref x) r->Qr r->Q .non H'
section
variable {P:Program} {w:World} {K:PySem.W.Frag} {mg:Str->Option Value} {base:Heap}
noncomputable def sW(N:List Str)(ds:List D):Ev:=.un::(ds.map Sl.fz++List.replicate (N.length-1-ds.length) .un)
theorem Pw{G H:Hp}{N:List Str}{x:V}{vs:List V}{ds:List D}(s:bL G H)(r:bB K G vs ds):cF K G H (sW N ds) (j3 N (x::vs)) G H:=by
 have E:=Az (N:=N.drop 1) s r;have hl:=r.length;have e1:sW N ds=.un::lS (N.drop 1) ds:=by simp[sW,lS]
 have e2:j3 N (x::vs)=some x::j3 (N.drop 1) vs:=by simp[j3,Nat.sub_sub,Nat.add_comm]
 rw[e1,e2];refine⟨E.e,congrArg (·+1) E.len,fun i d h=>?_,fun i d h=>?_,fun i j d d' ot h h'=>?_,?_⟩
 ·cases i with
  | zero=>cases h
  | succ i=>exact E.fz i d h
 ·cases i with
  | zero=>cases h
  | succ i=>exact E.ow i d h
 ·cases i with
  | zero=>cases h
  | succ i=>
   cases j with
   | zero=>cases h'
   | succ j=>exact E.dj i j d d' (fun z=>ot (by rw[z])) h h'
 ·obtain⟨own,o1,o2⟩:=E.on;refine⟨fun q=>(own q).map (·+1),fun i ds p h hp=>?_,fun i o h=>?_⟩
  ·cases i with
   | zero=>cases h
   | succ i=>
    dsimp only;rw[o1 i ds p h hp];rfl
  ·cases i with
   | zero=>cases h
   | succ i=>
    obtain⟨p,fp,b1,b2,b3,b4⟩:=o2 i o h;refine⟨p,fp,b1,b2,b3,fun q hq=>⟨(b4 q hq).1,(b4 q hq).2.1,?_⟩⟩;dsimp only;rw[(b4 q hq).2.2];rfl
theorem Ra(N:List Str)(ds:List D):∀i o,gt (sW N ds) i≠.ov o:=by
 have key:∀(l:List Sl),(∀s∈l,∀o,s≠.ov o)->∀i o,gt l i≠.ov o:=by
  intro l;induction l with
  | nil=>intro _ i o h;cases h
  | cons a r ih=>
   intro h i o;cases i with
   | zero=>exact h a (by simp) o
   | succ i=>exact ih (fun s hs=>h s (by simp[hs])) i o
 refine key _ fun s hs o e=>?_
 subst e;unfold sW at hs;simp at hs
theorem Pu{x qual cn:Str}{st:Stmt}{f C:Addr}{fd:FuncData}{N ps:List Str}{k:Nat}{t:eX}{T:vc}(F:xa K x qual st f fd)(S:bI N ("self"::ps) (bx st))(hC:ClsAt K cn C)
  (body:∀(cf:Value) (A:Around) (outer:List Env) (s:Shared) (H:Hp) (E:XK),cT k (A.deeper (envOfC qual (bx st) s.heap.objs.size f cf))->Bz (jl hZ P w K mg base N qual (bx st) f cf A outer s H E).kN C (cq st) T)
  (spec:∀(ds:List D) (Qr:R->Prop),ds.length=ps.length->t ds Qr->T (sW N ds) [] fun fs=>(∀p∈fs,cO K C p.1)/\Qr (.fz (.obj cn fs))):fW P w K mg base hZ (k+1) f fd ("self"::ps) (KO K C ps.length t):=by
 refine F.ok S (fun vs H Q E h=>?_) (fun cf A outer s H vs Q E hr h=>?_)
 ·obtain⟨x,dx,H1,G,ds,yz,Qr,rfl,_,_,_,_,_,r,hl,_⟩:=h;simp[r.length,hl]
 ·obtain⟨x,dx,H1,G,ds,yz,Qr,rfl,rfl,hx,lZ,eP,s0,r,hl,ht,k0⟩:=h;obtain⟨tt,p,q⟩:=body cf A outer s _ E hr;have E0:=Pw (N:=N) (x:=.ref x) s0 r;have gx:=s0.free hx;have zB:=s0.free lZ;have sH:bL H1 (upd (upd H1 dx (.own x)) x (.ins C dx [])):=fun b o e=>by rw[cN (gX e hx),cN (gX e lZ)];exact e
  have M0:Making K C x dx G H1 (sW N ds) (j3 N (.ref x::yz)) G (upd (upd H1 dx (.own x)) x (.ins C dx [])) [] []:=
   ⟨⟨⟨bL.refl _,sH,s0.trans sH,fun _ h _=>h⟩,E0.len,E0.fz,fun i ds h=>let⟨p,xs,b1,b2,b3,b4,b5⟩:=E0.ow i ds h;⟨p,xs,b1,sH _ _ b2,b3,b4,b5⟩,E0.dj,let⟨own,o1,o2⟩:=E0.on;⟨own,o1,fun i o h=>let⟨p,fp,b1,b2,b3,b4⟩:=o2 i o h;⟨p,fp,b1,b2,b3.mono (bL.refl _) fun q _ u e=>sH q u e,b4⟩⟩⟩,by simp[j3],gB,by rw[cN eP];exact gB,gx,zB,by simp only[cE]⟩
  refine⟨tt,p,q x dx _ _ G H1 G _ [] [] _ _ hx lZ eP (Ra _ _) M0 (spec ds Qr hl ht) fun cc G' H' fs gs M hq=>?_⟩;have y:=M.e.e;have ne':dx≠x:=eP;have sG:bL G' (upd (upd G' dx (.own x)) x (.ins C dx gs)):=fun b o e=>by rw[cN (gX e M.gx),cN (gX e M.zB)];exact e
  refine k0 H' (.fz (.obj cn fs)) (upd (upd G' dx (.own x)) x (.ins C dx gs)) ⟨y.g.trans sG,y.h,fun b o e=>?_,fun b h1 h2=>?_⟩ ?_ hq.2
  ·by_cases hb:b=x
   ·subst hb;rw[gB] at e;rw[M.hx];exact e
   ·rw[cN hb] at e;by_cases u4:b=dx
    ·subst u4;rw[gB] at e;rw[M.lZ];exact e
    ·rw[cN u4] at e;exact y.s b o e
  ·rw[cN (fun z=>h2 (by rw[z];exact hx)),cN (fun z=>h2 (by rw[z];exact lZ))];exact y.n b h1 h2
  ·show Rep K _ _ (.obj cn fs);simp only[Rep];exact⟨x,C,dx,gs,rfl,gB,hC,hq.1,cE.mono sG _ _ M.r⟩
structure lq (P:Program) (w:World) (K:PySem.W.Frag) (mg:Str->Option Value) (base:Heap) (k:Nat) (x:Str) (n:Nat) (t:eX):Prop where
 ex:∃(C f:Addr) (fd:FuncData) (ps:List Str),Mk K C f/\fW P w K mg base hZ k f fd ps (KO K C n t)/\mg x=some (.ref C)/\Binds K fd ps []
end
section
variable {X:Cx} {k k' n:Nat} {t:eX} {x:Str} {p pos:Pos} {e:Expr} {es:List Expr} {ts:iI}
theorem OR(C:lq X.prog X.w X.K X.mg X.base k x n t)(hr:cT k' X.A)(ha:lb X (e::es) ts)(hk:k+1<=k':=by decide)(hg:Gl X x:=by rfl)(js:(x==("__debug__":Str))=false:=by decide)
  (he:starEach (e::es) X.env=(false,eval e X.env)::starEach es X.env:=by rfl) (fR:(backTo pos (starEach es X.env)).any (·.1)=false:=by rfl):PD X (.Call (.Name x p) (e::es) [] pos) (fq n t ts):=by
 obtain⟨C,f,fd,ps,M,F,hm,hb⟩:=C.ex;obtain⟨tt,pp,q⟩:=ha;refine⟨_,Nz M F (hr.mono hk) hg hm hb .nil BU pp js he fR,fun ρ σ G0 H0 G H Q P E h k=>q ρ σ G0 H0 G H _ _ E h fun vs H' ds G' y rs hq=>?_⟩;intro a dx ha lZ eP;rw[aM];exact⟨a,dx,H',G',ds,vs,Q,rfl,rfl,ha,lZ,eP,y.s,rs,hq.1,hq.2,fun H2 r G2 x2 rr q2=>⟨rfl,k _ H2 r G2 (y.trans x2) (rr.ef y.h) q2⟩⟩
end
end L2
namespace L2
open PySem PySem.Spec PyProof.Rows
def gU(K:PySem.W.Frag)(C:Addr):List Str->Prop
 | []=>True
 | x::r=>cO K C x/\gU K C r
theorem gU.all{K:PySem.W.Frag}{C:Addr}:∀{l:List Str},gU K C l->∀x∈l,cO K C x
 | [],_,x,h=>by cases h
 | y::r,n,x,h=>by
  rcases ah.mp h with rfl | h
  ·exact n.1
  ·exact gU.all n.2 x h
structure BG (K:PySem.W.Frag) (mg:Str->Option Value) (cn qual:Str) (st:Stmt) (fields:List Str):Prop where
 ex:∃(C f:Addr) (fd:FuncData),ClsAt K cn C/\Mk K C f/\xa K "__init__" qual st f fd/\mg cn=some (.ref C)/\gU K C fields
theorem u9{K:PySem.W.Frag}{mg:Str->Option Value}{h:Heap}{cn qual:Str}{st:Stmt}{fields:List Str}{C f:Addr}{oc:Value}{od an:Option Addr}{nI:Array (Option Value)}{kV doc pm cf ct:Value}(X:K.In h)(G:h.Ns mainGlobals mg)
  (aC:PySem.W.nsIn K mainGlobals cn=some (some (.ref C))) (a1:PySem.W.findIn K (.ref C) "__init__"=some (some (.ref f))) (i1:PySem.W.isFn K (.ref f)=true)
  (l1:K.lookup f=some ⟨oc,od,.func (PySem.W.fnOf "__init__" qual (dX st) (cq st) (bx st) .none kV doc pm an cf ct),nI⟩) (c1:PySem.W.codeIn K cf qual=true) (k1:PySem.W.keepIn K (.ref f)=true)
  (pg:PySem.W.plainGet K C Str.empty=true) (hd:PySem.W.hasDictIn K C=true) (po:PySem.W.plainOver K C=true) (sa:PySem.W.findIn K (.ref C) "__setattr__"=some (some (.builtin "object.__setattr__"))) (mk:PySem.W.makesIn K C=true) (kc:PySem.W.keepIn K (.ref C)=true)
  (nf:gU K C fields):BG K mg cn qual st fields:=
 ⟨C,f,_,⟨aC,⟨pg,hd,po,sa⟩⟩,⟨mk,a1,i1,kc⟩,mX l1 c1 k1,ba X G aC,nf⟩
end L2
namespace L2
open PySem PySem.Spec PyProof.Rows
noncomputable def qA:D->Bool
 | .non=>true
 | .bl _=>true
 | .int _=>true
 | .str _=>true
 | _=>false
def rn(i:Nat)(te:TD):TD:=fun ρ Q=>te (jL i ρ) fun r=>match r with
 | .fz d=>qA d=true/\Q (.fz d)
 | _=>False
theorem CU{K:PySem.W.Frag}{G G':Hp}{v:V}{d:D}(h:qA d=true)(r:Rep K G v d):Rep K G' v d:=by
 cases d<;>first | (simp only[Rep] at r ⊢;exact r) | cases h
noncomputable def jX(G:Hp)(L:List Addr):Hp:=fun a=>if a∈L then none else G a
theorem HX{G H G' H':Hp}{L:List Addr}(gp:∀q∈L,G q=none)(x:Ext (nV G H L) H G' H'):Ext G H (jX G' L) H':=by
 refine⟨fun b u e=>?_,x.h,fun b u e=>?_,fun q h1 h2=>?_⟩
 ·have hb:b∉L:=fun z=>by rw[gp b z] at e;cases e
  unfold jX;rw[if_neg hb];exact x.g b u (by rw[pF hb];exact e)
 ·unfold jX at e;split at e
  ·cases e
  ·exact x.s b u e
 ·unfold jX;split
  ·rfl
  ·rename_i hq;exact x.n q (by rw[pF hq];exact h1) h2
section
variable {X:Cx} {e:Expr} {te:TD} {t:iP}
theorem cF.Ed{K:PySem.W.Frag}{G0 H0 G H:Hp}{ρ:Ev}{σ:St}(i:Nat)(E:cF K G0 H0 ρ σ G H):∃G1,cF K G0 H0 (jL i ρ) σ G1 H/\∀G' H',Ext G1 H G' H'->∃G2,Ext G H G2 H':=
 let⟨L,hL,E',_⟩:=E.k6 i
 ⟨_,E',fun G' H' x=>⟨_,HX hL x⟩⟩
theorem xJ(i:Nat)(h:PD X e te):PD X e (rn i te):=by
 obtain⟨tt,p,q⟩:=h;refine⟨tt,p,fun ρ σ G0 H0 G H Q P E h k=>?_⟩;obtain⟨G1,E1,back⟩:=E.Ed i;refine q _ σ G0 H0 G1 H _ _ E1 h fun v H' r G' x rr hq=>?_
 split at hq
 ·rename_i d;obtain⟨G2,x2⟩:=back G' H' x;exact k v H' (.fz d) G2 x2 (CU hq.1 rr) hq.2
 ·exact hq.elim
end
def AG:eX:=fun ds Q=>match ds with
 | [.lst es]=>match kI es with
  | some ss=>ss.length<4000/\(∀l:List Str,l.Nodup->(∀w∈l,w∈ss)->l.length<64)/\∀l:List Str,l.Nodup->(∀w,w∈l↔w∈ss)->sortedS l=true->Q (.ow (l.map D.str))
  | none=>False
 | _=>False
end L2
namespace L2
open PySem PySem.Spec PyProof.Rows
theorem Rk(t:SetTable)(n:Nat):(t.orStandIn n).led=t.led:=by
 unfold SetTable.orStandIn;split<;>rfl
theorem QD(t:SetTable)(es:Array (Int×Value))(h:Int)(x:Value):(layNew t es h x).2.1.led=t.led:=by
 unfold layNew;split
 ·exact Rk _ _
 ·rfl
theorem Rm{t t':SetTable}{hs:Array Int}{wanted:Nat}{order:Array Nat}(h:t.relaid hs wanted=some (t',order)):t'.led=t.led/\t'.plain=t.plain:=by
 unfold SetTable.relaid SetTable.laid at h;cases hc:SetTable.layClean (SetTable.sizeAbove wanted-1) hs with
 | none=>rw[hc] at h;cases h
 | some owner=>
  rw[hc] at h;cases h;exact⟨rfl,rfl⟩
theorem RG(t:SetTable)(es:Array (Int×Value))(wanted:Nat)(hp:t.plain=false):(relayAll t es wanted).2.1.led=t.led/\(relayAll t es wanted).2.1.plain=false:=by
 unfold relayAll;split
 ·rename_i t' order hr;obtain⟨h1,h2⟩:=Rm hr;dsimp only;split
  ·exact⟨h1,h2.trans hp⟩
  ·exact⟨rfl,rfl⟩
 ·exact⟨rfl,rfl⟩
section
variable {prog:Program} {w:World} {A:Around} {E:Value->Shared->Prop} {s:Shared}
structure zK (w:World) (es:Array (Int×Value)) (t:SetTable):Prop where
 led:t.led=!(w.params.followText "set-order")
 plain:es.size=0\/t.plain=false
structure cJ (prog:Program) (w:World) (h:Heap) (a:Addr) (es:Array (Int×Value)) (ep:Nat) (t:SetTable):Prop where
 at_:h.get? a=some { cls:=.type "set",dict:=none,data:=.set es ep t,slots:=#[] }
 el:ElemsOf (strKind prog w) es.toList
 small:es.size<scanBound
 fits:t.fits es.size=true
 marks:zK w es t
def Mem(prog:Program)(w:World)(es:Array (Int×Value))(k:Str):Prop:=∃e∈es.toList,(strKind prog w).is k e.2=true
theorem Ja{a:Addr}{es gO:Array (Int×Value)}{ep:Nat}{t t':SetTable}{Q:Unit->Shared->Prop}(ho:s.heap.get? a=some { cls:=.type "set",dict:=none,data:=.set es ep t,slots:=#[] })(hb:gO.size<scanBound)
  (h:∀h',Heap.SameBut a s.heap h'->h'.get? a=some { cls:=.type "set",dict:=none,data:=.set gO (ep+1) t',slots:=#[] }->Q () { s with heap:=h' }):wpAny (model prog w) A (storeSet a gO t') Q E s:=by
 refine wpAny_storeSet_of ho rfl ?_ (fits_of_scanBound hb);refine h _ (Heap.SameBut.update s.heap a (Obj.putSet gO t')) ?_;have:=Heap.get?_update_self (Obj.putSet gO t') ho (by rw[putSet_of gO t' (ep:=ep) (t:=t) (es:=es) rfl];rfl);rw[putSet_of gO t' (ep:=ep) (t:=t) (es:=es) rfl] at this;exact this
theorem Nj{a:Addr}{es:Array (Int×Value)}{ep:Nat}{t:SetTable}{x:Str}{tk:Tok}{Q:Bool->Shared->Prop}(S:cJ prog w s.heap a es ep t)(room:es.size+1<scanBound)
  (h:∀h' gO sx t',Heap.SameBut a s.heap h'->cJ prog w h' a gO sx t'->((gO=es/\Mem prog w es x)\/(¬Mem prog w es x/\List.Perm gO.toList (es.toList++[(hashStr w x,.str x tk)])))->∀b,Q b { s with heap:=h' }) :
  wpAny (model prog w) A (setAddHashed a (.str x tk) ((strKind prog w).hash x)) Q E s:=by
 have si:(strKind prog w).is x (.str x tk)=true:=by show Value.isStrOf x (.str x tk)=true;simp[Value.isStrOf]
 have Ey:(Value.str x tk).scannable=true:=rfl;have ho:=S.at_;unfold setAddHashed setAddHashedIn;refine aQ (aa (wpAny_setState_of ho rfl S.fits ?_));dsimp only;rw[byScan_of Ey S.small S.el];simp only[↓reduceIte];unfold setAddByScan;refine aa (aa (wpAny_rule (aa (wpAny_setScan_of si ho rfl S.fits S.el ?_))));cases hr:List.findIdx? (fun e=>(strKind prog w).is x e.2) es.toList with
 | some j=>
  dsimp only;obtain⟨hj,UA,_⟩:=List.findIdx?_eq_some_iff_getElem.mp hr;refine ag (ag ?_);exact h s.heap es ep t (Heap.SameBut.refl a s.heap) S (.inl ⟨rfl,es.toList[j],List.getElem_mem hj,UA⟩) _
 | none=>
  dsimp only;have r8:¬Mem prog w es x:=fun⟨e,he,hp⟩=>by
   have:=List.findIdx?_eq_none_iff.mp hr e he;rw[hp] at this;cases this
  have way:∀(b:Bool) {s1:Shared} {Q':Unit->Shared->Prop},Q' () s1->wpAny (model prog w) A (match b with | true=>rule "set.scan.the-table-gave-way" | false=>pure ()) Q' E s1:=fun b s1 Q' q=>by
   cases b
   ·exact ag q
   ·exact wpAny_rule q
  have iF:=layNew_perm t es ((strKind prog w).hash x) (.str x tk);have nP:=layNew_fits t es ((strKind prog w).hash x) (.str x tk);have se:=QD t es ((strKind prog w).hash x) (.str x tk);generalize layNew t es ((strKind prog w).hash x) (.str x tk)=L at iF nP se ⊢;obtain⟨ky,t1,Vw,Vn⟩:=L;dsimp only at iF nP se ⊢;rw[Array.toList_push] at iF;have zq:ElemsOf (strKind prog w) ky.toList:=(S.el.push si Ey).perm iF;have i5:ky.size=es.size+1:=by rw[<-aG,iF.length_eq,aj,aG];rfl
  have Bq:ky.size<scanBound:=by omega
  refine aa (way _ ?_)
  -- oZ table,not plain any more
  have tail:∀(g:Bool->Sem Unit),(∀(b:Bool) (s1:Shared) (Q':Unit->Shared->Prop),Q' () s1->wpAny (model prog w) A (g b) Q' E s1)->∀t2:SetTable,t2.fits ky.size=true->t2.led=t.led->t2.plain=false->wpAny (model prog w) A (do
    storeSet a ky t2
    if (!Vw&&t2.tooFull)=true then do
        g (relayAll t2 ky (SetTable.grown ky.size)).2.2
        storeSet a (relayAll t2 ky (SetTable.grown ky.size)).1 (relayAll t2 ky (SetTable.grown ky.size)).2.1
        pure (some true)
     else pure (some true)) (fun r s'=>wpAny (model prog w) A (match r with | some added=>pure added | none=>setAddHashedIn a (Value.str x tk) ((strKind prog w).hash x) 99999) Q E s') E s:=by
   intro g hg t2 f2 l2 p2;refine aa (Ja ho Bq fun h1 JE g1=>?_);have Fy:∀b,Q b { s with heap:=h1 }:=h h1 ky _ t2 JE ⟨g1,zq,Bq,f2,⟨l2.trans S.marks.led,.inr p2⟩⟩ (.inr ⟨r8,iF⟩)
   split
   ·have hp:=relayAll_perm t2 ky (SetTable.grown ky.size);have jK:=relayAll_fits t2 ky (SetTable.grown ky.size);have Bl:=RG t2 ky (SetTable.grown ky.size) p2;generalize relayAll t2 ky (SetTable.grown ky.size)=Rl at hp jK Bl ⊢;obtain⟨Bt,t3,KA⟩:=Rl;dsimp only at hp jK Bl ⊢;have y3:Bt.size=ky.size:=by rw[<-aG,hp.length_eq,aG]
    refine aa (hg _ _ _ ?_);refine aa (Ja (s:={ s with heap:=h1 }) g1 (by rw[y3];exact Bq) fun h2 uB g2=>ag (ag ?_));exact h h2 Bt _ t3 (JE.trans uB) ⟨g2,zq.perm hp,by rw[y3];exact Bq,jK,⟨(Bl.1.trans l2).trans S.marks.led,.inr Bl.2⟩⟩ (.inr ⟨r8,hp.trans iF⟩) _
   ·exact ag (ag (Fy _))
  by_cases fR:t1.plain=true
  ·rw[if_pos fR];refine aa ?_;rw[hashByValue_scannable 8 Ey];refine ag ?_;have hk:plainKind (.str x tk)=false:=rfl;rw[hk];simp only[ay,aX];exact tail _ (fun b s1 Q' q=>by cases b<;>first | exact ag q | exact wpAny_rule q) { t1 with plain:=false } (SetTable.fits_plain_off nP) se rfl
  ·rw[if_neg fR];refine aa (ag ?_);simp only[bh];exact tail _ (fun b s1 Q' q=>by cases b<;>first | exact ag q | exact wpAny_rule q) t1 nP se (by simpa using fR)
noncomputable def keysOf(es:Array (Int×Value)):List Str:=es.toList.map fun e=>strOf e.2
theorem HW{es:Array (Int×Value)}(el:ElemsOf (strKind prog w) es.toList)(k:Str):Mem prog w es k↔k∈keysOf es:=by
 unfold Mem keysOf;rw[aN];constructor
 ·rintro⟨e,he,hk⟩;obtain⟨t,ht⟩:=Value.isStrOf_shape hk;exact⟨e,he,by rw[ht];rfl⟩
 ·rintro⟨e,he,rfl⟩;obtain⟨⟨k,hk,_⟩,_⟩:=el e he;obtain⟨t,ht⟩:=Value.isStrOf_shape hk;refine⟨e,he,?_⟩;rw[ht];show Value.isStrOf k (.str k t)=true;simp[Value.isStrOf]
theorem Pt{es gO:Array (Int×Value)}{x:Str}{tk:Tok}{hs:Int}(p:List.Perm gO.toList (es.toList++[(hs,.str x tk)])):List.Perm (keysOf gO) (keysOf es++[x]):=by
 have:=p.map fun e=>strOf e.2
 rw[aE] at this;exact this
structure Holds (es:Array (Int×Value)) (xs:List Str):Prop where
 nd:(keysOf es).Nodup
 mem:∀x,x∈keysOf es↔x∈xs
 len:es.size<=xs.length
theorem Holds.put{es gO:Array (Int×Value)}{xs:List Str}{x:Str}{tk:Tok}(H:Holds es xs)(el:ElemsOf (strKind prog w) es.toList)
  (h:(gO=es/\Mem prog w es x)\/(¬Mem prog w es x/\List.Perm gO.toList (es.toList++[(hashStr w x,.str x tk)]))):Holds gO (xs++[x]):=by
 rcases h with⟨rfl,hm⟩ | ⟨hm,hp⟩
 ·refine⟨H.nd,fun y=>?_,by simp;have:=H.len;omega⟩;rw[av,<-H.mem,aO];constructor
  ·exact .inl
  ·rintro(h | rfl)
   ·exact h
   ·exact(HW el _).mp hm
 ·have hk:=Pt hp;refine⟨hk.nodup_iff.mpr ?_,fun y=>?_,?_⟩
  ·rw[List.nodup_append];refine⟨H.nd,by simp,fun a ha b hb=>?_⟩;rw[aO.mp hb];rintro rfl;exact hm ((HW el _).mpr ha)
  ·rw[hk.mem_iff,av,av,H.mem]
  ·have e1:=hk.length_eq;have e2:(keysOf gO).length=gO.size:=by simp[keysOf]
   have e3:(keysOf es).length=es.size:=by simp[keysOf]
   have:=H.len;simp only[aj,aB,bu] at e1 ⊢;omega
theorem cJ.kept{h h':Heap}{a:Addr}{es:Array (Int×Value)}{ep:Nat}{t:SetTable}(S:cJ prog w h a es ep t)(k:∀o,h.get? a=some o->h'.get? a=some o):cJ prog w h' a es ep t:=⟨k _ S.at_,S.el,S.small,S.fits,S.marks⟩
end
section
variable {prog:Program} {w:World} {A:Around} {R:Result->Shared->Prop} {I:Addr} {fp wr:List Addr} {G:Array GenState->Array GenState->Prop} {n:Nat} {P:Nat->Value->Prop} {St:Nat->Shared->Prop}
theorem Pr(W:WalksS prog w A.in1 I fp wr G n P St)(S:Addr)(u5:S∉fp)(xs:List Str)(hx:xs.length=n)(uP:∀i v,P i v->∃x t,xs[i]?=some x/\v=.str x t)(hb:n+1<scanBound) :
  ∀(k i:Nat) (s:Shared) (es:Array (Int×Value)) (ep:Nat) (t:SetTable),n-i=k->i<=n->St i s->cJ prog w s.heap S es ep t->Holds es (xs.take i)->
   (∀s' gO sx t',Moved (S::wr) G s s'->cJ prog w s'.heap S gO sx t'->Holds gO xs->R (.ok (.ret .none)) s')->codeAny (model prog w) A (.builtin "set.update.loop" ⟨[.ref S,.ref I],[]⟩) R s:=by
 have yL:S∉wr:=fun h=>u5 (W.sub _ h)
 have more:∀b∈wr,b∈S::wr:=fun b hb=>aA _ hb
 intro k;induction k with
 | zero=>
  intro i s es ep t hk hi st T H q;have e:i=n:=by omega
  subst e;refine codeAny_builtin PyProof.Rows.F.entry_set_update_loop ?_;rw[Around.under_plainId PyProof.Rows.F.plain_set_update_loop _];show wpAny _ A.in1 (pyNext (.ref I) >>= _) _ _ s;refine aa (W.done s _ _ st fun s' hm=>?_);show wpAny _ A.in1 (ret Value.none) _ _ s';rw[<-hx,List.take_length] at H;exact ag (q s' es ep t (hm.mono more) (T.kept fun o e=>hm.heap S _ yL e) H)
 | succ k ih=>
  intro i s es ep t hk hi st T H q;have eR:i<n:=by omega
  refine codeAny_builtin PyProof.Rows.F.entry_set_update_loop ?_;rw[Around.under_plainId PyProof.Rows.F.plain_set_update_loop _];show wpAny _ A.in1 (pyNext (.ref I) >>= _) _ _ s;refine aa (W.item i s _ _ eR st fun v s' hP fv hm=>?_);obtain⟨x,tk,Ui,rfl⟩:=uP i v hP;have T':cJ prog w s'.heap S es ep t:=T.kept fun o e=>hm.heap S _ yL e
  show wpAny _ A.in1 (holding [Value.str x tk] (setAdd S (.str x tk)) >>= _) _ _ s';refine aa (aQ ?_);unfold setAdd;refine aQ (aa ((strKind prog w).pyHash (k:=x) (by show Value.isStrOf x (.str x tk)=true;simp[Value.isStrOf]) ?_));have hl:=H.len;rw[aP] at hl;refine Nj (s:={ s' with toks:=s'.toks+1 }) T' (by omega) fun h' gO sx t' sb T2 EB b=>?_
  have A1:xs.take (i+1)=xs.take i++[x]:=by rw[List.take_add_one,Ui];rfl
  have H2:Holds gO (xs.take (i+1)):=by rw[A1];exact H.put T.el EB
  refine ag ⟨plainId_quiet PyProof.Rows.F.plain_set_update_loop _,ih (i+1) _ gO sx t' (by omega) eR (W.frame _ s' _ _ fv (bp _) fun b hb o e=>?_) T2 H2 fun s2 Bt Vu t2 jJ T3 H3=>?_⟩
  ·rw[sb.2 b (fun z:b=S=>u5 (by rw[<-z];exact hb))];exact e
  ·refine q s2 Bt Vu t2 (Moved.trans W.gtrans ((hm.mono more).then_heap (bp _) fun b o hb e=>?_) jJ) T3 H3;rw[sb.2 b (fun z:b=S=>hb (by rw[z];exact bj))];exact e
end
end L2
namespace L2
open PySem PySem.Spec PyProof.Rows
section
variable {prog:Program} {w:World} {A:Around} {E:Value->Shared->Prop} {s:Shared}
noncomputable abbrev pz(w:World):Obj:={ cls:=.type "set",dict:=none,data:=.set #[] 0 (.fresh 0 0 (!(w.params.followText "set-order"))) }
theorem OQ(a:Value){Q1:Value->Shared->Prop}(h:Q1 (.ref s.heap.objs.size) { s with heap:=s.heap.push (pz w) }) :
  codeAny (model prog w) A (.call (.builtin "set.__new__") ⟨[.type "set",a],[]⟩) (wants Q1 E) s:=by
 refine codeAny_of_tree ?_;show wpAny _ A.in1 (do checkBuiltinCall "set.__new__" ⟨[.type "set",a],[]⟩;again (.builtin "set.__new__" ⟨[.type "set",a],[]⟩)) _ _ s;refine aa (wpAny_of_eq (PySem.F.newCall_set_1 a) (ag ⟨plainId_quiet PySem.F.plain_set_new _,codeAny_builtin PySem.F.entry_set_new ?_⟩));rw[Around.under_plainId PySem.F.plain_set_new _];unfold Builtin.«set.__new__» Builtin.Frozenset.newClass;have Eu:=PySem.sub_set_self;obtain⟨hp,g,d,tk,os⟩:=s;dsimp only;wp_walk
 refine wpAny_askSetting (ag ?_);dsimp only;simp only[newObj];refine aa (wpAny_alloc (ag ?_));exact ag h
theorem Ni{h:Heap}{a:Addr}(e:h.get? a=some (pz w)):cJ prog w h a #[] 0 (.fresh 0 0 (!(w.params.followText "set-order"))):=
 ⟨e,fun x hx=>by simp at hx,by show 0<4096;decide,by simp[SetTable.fits,SetTable.fresh,SetTable.fill],⟨rfl,.inl rfl⟩⟩
theorem Pq{l:Addr}{items:List Value}{xs:List Str}{Q:Value->Shared->Prop}(hh:A.handled=none)(hl:s.heap.IsList l items.toArray)(hi:StrsAre items xs)(hb:xs.length+1<scanBound)
  (h:∀(h':Heap) (tk:Nat) es ep t,cJ prog w h' s.heap.objs.size es ep t->L2.Holds es xs->(∀b o,b<s.heap.objs.size->s.heap.get? b=some o->h'.get? b=some o)->Q (.ref s.heap.objs.size) { s with heap:=h',toks:=tk }) :
  wpAny (model prog w) A (call (.type "set") [.ref l]) Q E s:=by
 obtain⟨c,tl,UK⟩:=PySem.F.called_set.mro;have Kd:=PySem.F.called_set.made;have Eu:=PySem.F.called_set.sub;refine wpAny_call (codeAny_of_tree ?_);show wpAny _ _ (callAny (.type "set") _) _ _ _;refine ag ⟨Code.quiet_builtin _ (by decide +kernel),codeAny_builtin PySem.F.entry_type_call ?_⟩;rw[Around.under_plain (weight_type_call_type "set" [.ref l] []) rfl];have h1:=PySem.F.called_set.notType;have h2:=PySem.F.called_set.canCreate;have VZ:=PySem.F.typeCall_set_1 (.ref l);repeat(any_goals (first | assumption | wp_step))
 refine codeAny_mono (OQ (.ref l) (E:=E) (Q1:=fun obj s1=>obj=.ref s.heap.objs.size/\s1={ s with heap:=s.heap.push (pz w) }) ⟨rfl,rfl⟩) fun r s1 hr=>?_
 cases r with
 | error e=>exact hr
 | ok fl=>
  cases fl with
  | ret obj=>
   obtain⟨rfl,rfl⟩:=hr;have hS:(s.heap.push (pz w)).get? s.heap.objs.size=some (pz w):=ax _ rfl;have hT:Shared.TypeIs { s with heap:=s.heap.push (pz w) } (.ref s.heap.objs.size) "set":=⟨_,hS,rfl⟩
   have VV:=PySem.F.called_set.init.lookup;have V0:=PySem.F.called_set.init.bind (.ref s.heap.objs.size);repeat(any_goals (first | assumption | wp_step))
   refine codeAny_mono (codeAny_call_builtin (R:=wants (fun r s2=>r=.none/\∃h' tk es ep t,s2={ s with heap:=h',toks:=tk }/\cJ prog w h' s.heap.objs.size es ep t/\L2.Holds es xs/\
     (∀b o,b<s.heap.objs.size->s.heap.get? b=some o->h'.get? b=some o)) E) PySem.F.called_set.init.plain PySem.F.entry_set_init (check_set_init_1 hT ?_)) fun r2 s2 EA=>?_
   ·obtain⟨ol,Bi,zr,nl,Ki⟩:=hl;obtain⟨TZ,yM,JK,uE⟩:=ol;simp only at zr Ki;subst zr Ki;have uT:(s.heap.push (pz w)).get? l=some { cls:=.type "list",dict:=yM,data:=.seq items.toArray nl,slots:=uE }:=af _ Bi;have Uv:=PySem.F.sub_list_set;have Uw:=PySem.F.sub_list_frozenset;have eP:(Value.type "list"==Value.type "dict")=false:=by decide
    have pW:(s.heap.push (pz w)).IsList l items.toArray:=⟨_,uT,rfl,nl,rfl⟩
    unfold Builtin.«set.__init__» noKeywords Builtin.Frozenset.updateFrom;generalize Va:pyIter=PI;wp_walk
    subst Va;refine wpAny_pyIter_list pW (aa (wpAny_runValue ?_));have Ke:l<s.heap.objs.size:=aq Bi;have UR:A.in1.in1.in1.handled=none:=by simp[hh]
    have i5:(s.heap.push (pz w)).objs.size=s.heap.objs.size+1:=Heap.size_push ..;have EN:l≠(s.heap.push (pz w)).objs.size:=by rw[i5];exact aD (Nat.lt_succ_of_lt Ke)
    have u5:s.heap.objs.size∉[(s.heap.push (pz w)).objs.size,l]:=by
     rw[i5];simp only[ah,aK,or_false,not_or];exact⟨aD (Nat.lt_succ_self _),Nat.ne_of_gt Ke⟩
    have JT:xs.length=items.toArray.size:=by
     rw[ar];clear Bi uT pW h hb;induction hi with
     | nil=>rfl
     | cons _ _ _ ih=>simp[ih]
    have uP:∀(i:Nat) (v:Value),items.toArray[i]?=some v->∃x t,xs[i]?=some x/\v=.str x t:=fun i v hv=>by
     rw[List.getElem?_toArray] at hv;clear Bi uT pW h hb JT;induction hi generalizing i with
     | nil=>simp at hv
     | cons x t hr ih=>
      cases i with
      | zero=>simp at hv;exact⟨x,t,rfl,hv.symm⟩
      | succ i=>simp only[List.getElem?_cons_succ] at hv ⊢;exact ih i hv
    refine Pr ((Walks.list UR _ l EN items.toArray).toS) s.heap.objs.size u5 xs JT uP (by omega) (items.toArray.size-0) 0 _ #[] 0 _ (by omega) (bg _)
     ⟨⟨_,ax _ rfl,rfl,rfl⟩,(pW.push _)⟩ (Ni (af _ hS)) ⟨by simp[keysOf],by simp[keysOf],by simp⟩ ?hR
    case hR=>
     intro s' es ep t hm T H;obtain⟨h',g',d',Tn,uF⟩:=s';have eg:g'=s.gens:=hm.gens;have ed:d'=s.drawn:=hm.drawn;have eo:uF=s.os:=hm.os;subst eg ed eo;show wpAny _ _ _ _ _ _;refine ag ?_;show wpAny _ _ (ret Value.none) _ _ _;refine ag ⟨rfl,h',Tn,es,ep,t,rfl,T,H,fun b o hb e=>?_⟩;refine hm.heap b o ?_ (af _ (af _ e));rw[i5];simp only[ah,aK,or_false,not_or];exact⟨aD hb,aD (Nat.lt_succ_of_lt hb)⟩
   ·cases r2 with
    | error e=>exact EA
    | ok Vr=>
     cases Vr with
     | ret r=>
      obtain⟨rfl,h',tk,es,ep,t,rfl,T,H,qL⟩:=EA;repeat(any_goals (first | assumption | wp_step))
      exact h _ _ es ep t T H qL
     | _=>exact EA.elim
  | _=>exact hr.elim
end
end L2
namespace L2
open PySem PySem.Spec PyProof.Rows
theorem f7:Slot "set_iterator" "__next__" "set_iterator.__next__":=
 .of (owner:="set_iterator") (n:="__next__") (by rw[typeLookup_type,builtinLookup_eq_fast];kernel_rfl) (by decide +kernel) (by decide +kernel) (by decide +kernel) (by first | exact .inl (by decide +kernel) | exact .inr (by decide +kernel)) (by rw[isSubtype_type];kernel_rfl)
theorem Hc:Slot "set_iterator" "__iter__" "set_iterator.__iter__":=
 .of (owner:="set_iterator") (n:="__iter__") (by rw[typeLookup_type,builtinLookup_eq_fast];kernel_rfl) (by decide +kernel) (by decide +kernel) (by decide +kernel) (by first | exact .inl (by decide +kernel) | exact .inr (by decide +kernel)) (by rw[isSubtype_type];kernel_rfl)
theorem Hb:entryFor table "set_iterator.__next__"=some Builtin.«set_iterator.__next__»:=entryFor_of_fast (by kernel_rfl)
theorem Nh:entryFor table "set_iterator.__iter__"=some Builtin.«dict_keyiterator.__iter__»:=entryFor_alias (id':="dict_keyiterator.__iter__") (by kernel_rfl) rfl (by decide +kernel) (by kernel_rfl)
theorem OP:entryFor table "set.__iter__"=some Builtin.«frozenset.__iter__»:=entryFor_alias (id':="frozenset.__iter__") (by kernel_rfl) rfl (by decide +kernel) (by kernel_rfl)
theorem Ha(a:Value):argsOk "set_iterator.__next__" ⟨[a],[]⟩:=by unfold argsOk;kernel_rfl
theorem NY(a:Value):argsOk "set_iterator.__iter__" ⟨[a],[]⟩:=by unfold argsOk;kernel_rfl
section
variable {prog:Program} {w:World} {A:Around} {E:Value->Shared->Prop} {s:Shared}
theorem Dg{α:Type}:∀{l:List α} {i:Nat} (h:i<l.length),(l[i]::l.eraseIdx i).Perm l
 | a::r,0,_=>.refl _
 | a::r,i+1,h=>by
  simp only[List.getElem_cons_succ,List.eraseIdx_cons_succ];exact(List.Perm.swap _ _ _).trans ((Dg (by simpa using h)).cons a)
theorem QC{M:Model}{src:Source}{n:Nat}{Q:Nat->Shared->Prop}(hn:n≠0)(h:∀i d,i<n->Q i { s with drawn:=d }):wpAny M A (choose src n) Q E s:=fun Γ p _=>by
 show Sem.wp M Γ (.choose src n .pure) _ _ p s;rw[Sem.wp_choose];exact⟨hn,h _ _ (Nat.mod_lt _ (Nat.pos_of_ne_zero hn))⟩
theorem IZ{M:Model}{α:Type}:∀(n:Nat) (xs:List α) (s:Shared) (Q:List α->Shared->Prop),xs.length<=n->(∀ys d,ys.Perm xs->Q ys { s with drawn:=d })->wpAny M A (drawOrder n xs) Q E s
 | 0,xs,s,Q,hl,q=>by
  have:xs=[]:=List.eq_nil_of_length_eq_zero (by omega);subst this;unfold drawOrder;exact ag (q [] s.drawn (.refl _))
 | n+1,[],s,Q,hl,q=>by
  unfold drawOrder;exact ag (q [] s.drawn (.refl _))
 | n+1,x::r,s,Q,hl,q=>by
  unfold drawOrder;refine aa (QC (by simp) fun i d hi=>?_);rw[ao hi];dsimp only;refine aa (IZ n _ _ _ (by rw[List.length_eraseIdx];split<;>simp at hl ⊢<;>omega) fun ys d' hp=>ag ?_);exact q _ d' ((hp.cons _).trans (Dg hi))
theorem G9{α:Type}(f:Nat->Nat):∀(n k:Nat) (left:List α) (out:Array α),left.length=n->(pickOrder.go f n k left out).toList.Perm (out.toList++left)
 | 0,k,left,out,h=>by
  have:left=[]:=List.eq_nil_of_length_eq_zero h;subst this;simp[pickOrder.go]
 | n+1,k,left,out,h=>by
  unfold pickOrder.go;have eR:f k%left.length<left.length:=Nat.mod_lt _ (by omega);rw[ao eR];dsimp only;refine(G9 f n (k+1) _ _ (by rw[List.length_eraseIdx,if_pos eR];omega)).trans ?_;rw[Array.toList_push,List.append_assoc];exact(List.Perm.refl _).append (Dg eR)
theorem IY{α:Type}(f:Nat->Nat)(xs:Array α):(pickOrder f xs).toList.Perm xs.toList:=by
 have:=G9 f xs.size 0 xs.toList #[] (by simp);simpa[pickOrder] using this
noncomputable abbrev qz(first:Value)(i:Nat)(S:Addr)(n ep:Nat):Obj:={ cls:=.type "set_iterator",data:=.fields #[first,.int i 0,.ref S,.int n 0,.int ep 0] }
theorem Dp{a:Addr}{es:Array (Int×Value)}{ep:Nat}{t:SetTable}{Q:Array (Int×Value)->Shared->Prop}(S:cJ prog w s.heap a es ep t)(h:Q es s):wpAny (model prog w) A (setEntries a) Q E s:=by
 unfold setEntries;exact aa (wpAny_setState_of S.at_ rfl S.fits (ag h))
theorem HV{I:Addr}{o:Obj}{vs:Array Value}{Q:Option Value->Shared->Prop}{K:Fin->Shared->Prop}(hh:A.handled=none)(ho:s.heap.get? I=some o)(hd:o.data=.fields vs)(hv:2<vs.size)
  (hQ:∀h',Heap.ExtBut I s.heap h'->Q none { s with heap:=h' }) :
  wpAny (model prog w) A.in1 (do setField (.ref I) 2 .none;raiseNew (<-newExc (.type "StopIteration") []):Sem Fin) K (fun e s'=>wpAny (model prog w) A (do if <-isInstance e (.type "StopIteration") then pure none else throw e:Sem (Option Value)) Q E s') s:=by
 refine aa (wpAny_setField ho hd hv ?_);show wpAny _ _ (newExc (.type "StopIteration") [] >>= _) _ _ _;refine aa ?_;simp only[newExc,newTuple];refine aa (wpAny_newObj_type ?_ (by size_fits));refine aa (m:=firstArgMember _ _) (wpAny_of_eq (a:=Value.none) (by first | rfl | (simp only[firstArgMember];rfl)) ?_);refine wpAny_newObj_type ?_ (by size_fits);simp only[raiseNew];refine aa (wpAny_handled ?_);rw[show A.in1.handled=none from hh];refine aa (ag (wpAny_throw ?_));refine aa (wpAny_isInstance (T:="StopIteration") (b:=true) ⟨_,ax _ rfl,rfl⟩ isSubtype_stop ?_);exact ag (hQ _ (((Heap.SameBut.update ..).extBut.push _).push _))
end
end L2
namespace L2
open PySem PySem.Spec PyProof.Rows
section
variable {prog:Program} {w:World} {A:Around} {E:Value->Shared->Prop} {s:Shared}
theorem Ay{I S:Addr}{es:Array (Int×Value)}{ep:Nat}{t:SetTable}{sl i:Nat}{Q:Option Value->Shared->Prop}(hh:A.handled=none)(hI:s.heap.get? I=some (qz (.int sl 0) i S es.size ep))(T:cJ prog w s.heap S es ep t)(r:Option (Value×Nat))
  (hN:∀(Q':Option (Value×Nat)->Shared->Prop) (E':Value->Shared->Prop),Q' r s->wpAny (model prog w) A.in1 (setNext S sl i ep) Q' E' s)
  (hs:∀x j,r=some (x,j)->∀h',Heap.SameBut I s.heap h'->h'.get? I=some (qz (.int j 0) (i+1) S es.size ep)->Q (some x) { s with heap:=h' })
  (hn:r=none->∀h',Heap.ExtBut I s.heap h'->Q none { s with heap:=h' }):wpAny (model prog w) A (pyNext (.ref I)) Q E s:=by
 have hT:s.TypeIs (.ref I) "set_iterator":=⟨_,hI,rfl⟩
 unfold pyNext;refine aa (wpAny_attempt (wpAny_callSpecial?_slot (name:=Str.ofString "__next__") hT f7 (wpAny_call_entry f7 hT Hb ?_ (Ha _))));show wpAny _ _ (fieldsOf (.ref I) >>= _) _ _ s;refine aa (wpAny_fieldsOf hI rfl ?_);dsimp only;refine aa (Dp T ?_);simp only[bne_self_eq_false,ay,aX];simp only[Int.toNat_natCast];refine aa (hN _ _ ?_);cases r with
 | none=>exact HV hh hI rfl (by simp) (hn rfl)
 | some p=>
  obtain⟨x,j⟩:=p;dsimp only;refine aa (wpAny_setField_rec hI (by simp) fun h1 g1 b1=>?_);refine aa (wpAny_setField_rec (s:={ s with heap:=h1 }) g1 (by simp) fun h2 g2 b2=>?_);refine ag ⟨x,rfl,ag (hs x j rfl h2 (b1.trans b2) ?_)⟩;rw[g2];simp[rawInt]
theorem HU{I S Tp:Addr}{es:Array (Int×Value)}{ep:Nat}{t:SetTable}{ps:List Nat}{i:Nat}{Q:Option Value->Shared->Prop}(hh:A.handled=none)(hI:s.heap.get? I=some (qz (.ref Tp) i S es.size ep))(T:cJ prog w s.heap S es ep t)
  (U7:s.heap.get? Tp=some { cls:=.type "tuple",data:=.seq (ps.map fun(p:Nat)=>rawInt p).toArray })
  (hs:∀p e,ps[i]?=some p->es[p]?=some e->∀h',Heap.SameBut I s.heap h'->h'.get? I=some (qz (.ref Tp) (i+1) S es.size ep)->Q (some e.2) { s with heap:=h' })
  (wy:∀p∈ps,p<es.size) (hn:ps[i]?=none->∀h',Heap.ExtBut I s.heap h'->Q none { s with heap:=h' }):wpAny (model prog w) A (pyNext (.ref I)) Q E s:=by
 have hT:s.TypeIs (.ref I) "set_iterator":=⟨_,hI,rfl⟩
 unfold pyNext;refine aa (wpAny_attempt (wpAny_callSpecial?_slot (name:=Str.ofString "__next__") hT f7 (wpAny_call_entry f7 hT Hb ?_ (Ha _))));show wpAny _ _ (fieldsOf (.ref I) >>= _) _ _ s;refine aa (wpAny_fieldsOf hI rfl ?_);dsimp only;refine aa (Dp T ?_);simp only[bne_self_eq_false,ay,aX];refine aa (wpAny_seqItems U7 rfl ?_);dsimp only;simp only[Int.toNat_natCast,List.getElem?_toArray,aR];cases hp:ps[i]? with
 | none=>
  simp only[Option.map_none];refine aa (wpAny_setField_rec hI (by simp) fun h1 g1 b1=>?_);exact HV (s:={ s with heap:=h1 }) hh g1 rfl (by simp) fun h' x=>hn hp h' (b1.extBut.trans x)
 | some p=>
  simp only[Option.map_some,rawInt,Int.toNat_natCast];have eR:=wy p (List.mem_of_getElem? hp);have he:es[p]?=some es[p]:=by simp[eR]
  unfold setNextDrawn;refine aa (aa (wpAny_setState_of T.at_ rfl T.fits ?_));simp only[bne_self_eq_false,ay,aX,he];refine ag ?_;refine aa (wpAny_setField_rec hI (by simp) fun h1 g1 b1=>?_);refine ag ⟨_,rfl,ag (hs p es[p] hp he h1 b1 ?_)⟩;rw[g1];simp
theorem IX{S:Addr}{es:Array (Int×Value)}{ep:Nat}{t:SetTable}(T:cJ prog w s.heap S es ep t)(sl i:Nat)(hf:w.params.followText "set-order"=true)(Q:Option (Value×Nat)->Shared->Prop)
  (q:Q (((pickOrder (w.params.setOrder S ep) es)[i]?).map fun e=>(e.2,sl)) s):wpAny (model prog w) A (setNext S sl i ep) Q E s:=by
 unfold setNext;refine aa (wpAny_setState_of T.at_ rfl T.fits ?_);dsimp only;unfold setsByText;refine aa (aa (wpAny_askSetting (ag ?_)));rw[show(model prog w).w.params.followText "set-order"=true from hf];simp only[bne_self_eq_false,ay,aX,bh];unfold setWalk;refine aa (aa (wpAny_setState_of T.at_ rfl T.fits ?_));dsimp only;unfold setsByText;refine aa (aa (wpAny_askSetting (ag ?_)));rw[show(model prog w).w.params.followText "set-order"=true from hf];simp only[bh];exact aa (wpAny_askSetting (ag (ag q)))
theorem Jh{S:Addr}{es:Array (Int×Value)}{ep:Nat}{t:SetTable}(T:cJ prog w s.heap S es ep t)(sl i:Nat)(hf:w.params.followText "set-order"=false)(h1:es.size<=1)(Q:Option (Value×Nat)->Shared->Prop)
  (q:Q (match es[SetTable.below t.place sl]?,t.place[SetTable.below t.place sl]? with | some (_,x),some j=>some (x,j+1) | _,_=>none) s):wpAny (model prog w) A (setNext S sl i ep) Q E s:=by
 unfold setNext;refine aa (wpAny_setState_of T.at_ rfl T.fits ?_);dsimp only;unfold setsByText;refine aa (aa (wpAny_askSetting (ag ?_)));rw[show(model prog w).w.params.followText "set-order"=false from hf];simp only[ay,aX];have hl:t.led=true:=by rw[T.marks.led,hf];rfl
 have hd:(!t.plain&&decide (es.size>1))=false:=by
  rw[aL (by omega)];simp
 refine wpAny_ite_split (fun h=>absurd (show(!t.plain&&decide (es.size>1))=true from h) (by rw[hd];simp)) fun _=>?_
 refine aa ?_;show wpAny _ _ (ite ((!t.led&&!es.isEmpty)=true) _ _) _ _ _;rw[hl];simp only[Bool.not_true,Bool.false_and,ay,aX];exact ag (ag q)
theorem CO{I S:Addr}{h h':Heap}{es:Array (Int×Value)}{ep:Nat}{t:SetTable}(T:cJ prog w h S es ep t)(eP:S≠I)(b:Heap.SameBut I h h'):cJ prog w h' S es ep t:=T.kept fun o e=>by rw[b.2 S eP];exact e
abbrev BF(vals:List Value):Nat->Value->Prop:=fun i v=>vals[i]?=some v
theorem Cw{I S:Addr}{first:Value}{i n ep:Nat}{Q:Value->Shared->Prop}(hI:s.heap.get? I=some (qz first i S n ep))(q:Q (.ref I) s):wpAny (model prog w) A (pyIter (.ref I)) Q E s:=by
 have hT:s.TypeIs (.ref I) "set_iterator":=⟨_,hI,rfl⟩
 refine wpAny_pyIter_slot hT Hc (wpAny_call_entry Hc hT Nh ?_ (NY _));show wpAny _ _ (ret (.ref I)) _ _ s;exact ag ⟨_,rfl,"set_iterator",_,hT,f7.lookup,q⟩
theorem Pp{I S:Addr}{es:Array (Int×Value)}{ep:Nat}{t:SetTable}(eP:S≠I)(hf:w.params.followText "set-order"=true)(hh:A.handled=none) :
  Walks prog w A I [I,S] [I] es.size (BF ((pickOrder (w.params.setOrder S ep) es).toList.map (·.2))) (fun i h=>h.get? I=some (qz (.int 0 0) i S es.size ep)/\cJ prog w h S es ep t):=by
 have hp:=IY (w.params.setOrder S ep) es;have hl:(pickOrder (w.params.setOrder S ep) es).size=es.size:=by rw[<-aG,hp.length_eq,aG]
 refine⟨fun b hb=>by simp at hb;simp[hb],fun i h h' st k=>⟨k I (by simp) _ st.1,st.2.kept (k S (by simp))⟩,fun i s Q E hi st q=>?_,fun s Q E st q=>?_,fun i s Q E st q=>Cw st.1 q⟩
 ·have zj:i<(pickOrder (w.params.setOrder S ep) es).size:=by omega
  refine Ay (sl:=0) hh st.1 st.2 _ (fun Q' E' q'=>IX st.2 0 i hf Q' q') (fun x j e h' b g=>?_) (fun e=>?_)
  ·rw[Array.getElem?_eq_getElem zj] at e;simp only[Option.map_some,Option.some.injEq,Prod.mk.injEq] at e;obtain⟨rfl,rfl⟩:=e;exact q _ h' s.toks (by show(List.map _ _)[i]?=_;rw[aR,Array.getElem?_toList,Array.getElem?_eq_getElem zj];rfl) ⟨g,CO st.2 eP b⟩ fun c o hc e=>by rw[b.2 c (by simpa using hc)];exact e
  ·rw[Array.getElem?_eq_getElem zj] at e;cases e
 ·refine Ay (sl:=0) hh st.1 st.2 _ (fun Q' E' q'=>IX st.2 0 _ hf Q' q') (fun x j e=>?_) (fun _ h' b=>q h' s.toks fun c o hc e=>b c o (by simpa using hc) e);rw[Array.getElem?_eq_none (by omega)] at e;cases e
theorem GX(p j:Nat):SetTable.below #[p] j=if p<j then 1 else 0:=by
 unfold SetTable.below;simp only[ar,aB,bu,Nat.zero_add];unfold SetTable.below.go;simp;split<;>unfold SetTable.below.go<;>rfl
theorem G8{α:Type}{a:Array α}(h:a.size=1):∃e,a=#[e]:=⟨a[0]'(by omega),Array.ext (by simpa using h) fun i hi _=>by
 have:i=0:=by omega
 subst this;rfl⟩
theorem QB{I S:Addr}{es:Array (Int×Value)}{ep:Nat}{t:SetTable}(eP:S≠I)(hf:w.params.followText "set-order"=false)(h1:es.size<=1)(hh:A.handled=none) :
  Walks prog w A I [I,S] [I] es.size (BF (es.toList.map (·.2))) (fun i h=>∃sl:Nat,h.get? I=some (qz (.int sl 0) i S es.size ep)/\cJ prog w h S es ep t/\(i=0->sl=0)/\(1<=i->∃p,t.place=#[p]/\sl=p+1)):=by
 refine⟨fun b hb=>by simp at hb;simp[hb],fun i h h' st k=>?_,fun i s Q E hi st q=>?_,fun s Q E st q=>?_,fun i s Q E st q=>?_⟩
 ·obtain⟨sl,a,T,b,c⟩:=st;exact⟨sl,k I (by simp) _ a,T.kept (k S (by simp)),b,c⟩
 ·obtain⟨sl,a,T,b,c⟩:=st;have Uy:es.size=1:=by omega
  have UQ:i=0:=by omega
  subst UQ;have Ew:=b rfl;subst Ew;obtain⟨e,rfl⟩:=G8 Uy;have zp:=T.fits;simp only[SetTable.fits,Bool.and_eq_true,beq_iff_eq] at zp;obtain⟨p,hp⟩:=G8 (show t.place.size=1 from zp.1);refine Ay hh a T (some (e.2,p+1)) (fun Q' E' q'=>Jh T _ _ hf h1 Q' ?_) (fun x j ej h' bb g=>?_) (fun z=>nomatch z)
  ·rw[hp,GX,if_neg (Nat.not_lt_zero _)];exact q'
  ·cases ej;exact q _ h' s.toks rfl ⟨p+1,g,CO T eP bb,fun z=>by omega,fun _=>⟨p,hp,rfl⟩⟩ fun c o hc e=>by rw[bb.2 c (by simpa using hc)];exact e
 ·obtain⟨sl,a,T,b,c⟩:=st;refine Ay hh a T none (fun Q' E' q'=>Jh T _ _ hf h1 Q' ?_) (fun x j e=>nomatch e) (fun _ h' b=>q h' s.toks fun c o hc e=>b c o (by simpa using hc) e);have he:es[SetTable.below t.place sl]?=none:=by
   by_cases h0:es.size=0
   ·exact Array.getElem?_eq_none (by omega)
   ·obtain⟨p,hp,Ew⟩:=c (by omega);rw[hp,Ew,GX,if_pos (Nat.lt_succ_self _)];exact Array.getElem?_eq_none (by omega)
  rw[he];exact q'
 ·obtain⟨sl,a,T,b,c⟩:=st;exact Cw a q
theorem QA{I S Tp:Addr}{es:Array (Int×Value)}{ep:Nat}{t:SetTable}{ps:List Nat}(eP:S≠I)(EO:Tp≠I)(hp:ps.Perm (List.range es.size))(hh:A.handled=none) :
  Walks prog w A I [I,Tp,S] [I] es.size (BF (ps.map fun p=>(es.getD p (0,.none)).2)) (fun i h=>h.get? I=some (qz (.ref Tp) i S es.size ep)/\cJ prog w h S es ep t/\h.get? Tp=some { cls:=.type "tuple",data:=.seq (ps.map fun(p:Nat)=>rawInt p).toArray }):=by
 have wy:∀p∈ps,p<es.size:=fun p h=>List.mem_range.mp (hp.mem_iff.mp h)
 have hl:ps.length=es.size:=by rw[hp.length_eq,List.length_range]
 refine⟨fun b hb=>by simp at hb;simp[hb],fun i h h' st k=>⟨k I (by simp) _ st.1,st.2.1.kept (k S (by simp)),k Tp (by simp) _ st.2.2⟩,fun i s Q E hi st q=>?_,fun s Q E st q=>?_,fun i s Q E st q=>Cw st.1 q⟩
 ·have zj:i<ps.length:=by omega
  refine HU hh st.1 st.2.1 st.2.2 (fun p e h1 h2 h' b g=>?_) wy (fun z=>by rw[ao zj] at z;cases z);refine q _ h' s.toks ?_ ⟨g,CO st.2.1 eP b,by rw[b.2 Tp EO];exact st.2.2⟩ fun c o hc e=>by rw[b.2 c (by simpa using hc)];exact e
  show(List.map _ _)[i]?=_;rw[aR,h1];simp[h2]
 ·refine HU hh st.1 st.2.1 st.2.2 (fun p e h1=>?_) wy (fun _ h' b=>q h' s.toks fun c o hc e=>b c o (by simpa using hc) e);rw[List.getElem?_eq_none (by omega)] at h1;cases h1
end
end L2
namespace L2
open PySem PySem.Spec PyProof.Rows
section
variable {prog:Program} {w:World} {A:Around} {E:Value->Shared->Prop} {s:Shared}
structure Laid (prog:Program) (w:World) (h:Heap) (a:Addr) (es:Array (Int×Value)) (I:Addr) (h':Heap):Prop where
 ex:∃(fp:List Addr) (vals:List Value) (St:Nat->Heap->Prop),vals.Perm (es.toList.map (·.2))/\(∀A:Around,A.handled=none->Walks prog w A I fp [I] es.size (BF vals) St)/\St 0 h'/\∀b∈fp,b=a\/h.objs.size<=b
 old:∀b o,h.get? b=some o->h'.get? b=some o
 new:h.objs.size<=I
 type:∃o,h'.get? I=some o/\o.cls=.type "set_iterator"
theorem Po{es:Array (Int×Value)}{ps:List Nat}(hp:ps.Perm (List.range es.size)):(ps.map fun p=>(es.getD p (0,.none)).2).Perm (es.toList.map (·.2)):=by
 refine(hp.map _).trans ?_;have e:(List.range es.size).map (fun p=>(es.getD p (0,.none)).2)=es.toList.map (·.2):=by
  apply List.ext_getElem
  ·simp
  ·intro i h1 h2;have hi:i<es.size:=by simpa using h1
   simp[Array.getD,hi]
 rw[e]
theorem OO{a:Addr}{es:Array (Int×Value)}{ep:Nat}{t:SetTable}{Q:Value->Shared->Prop}(T:cJ prog w s.heap a es ep t)
  (q:∀(I:Addr) (h':Heap) (d:Drawn),Laid prog w s.heap a es I h'->Q (.ref I) { s with heap:=h',drawn:=d }):wpAny (model prog w) A (pyIter (.ref a)) Q E s:=by
 have hT:s.TypeIs (.ref a) "set":=⟨_,T.at_,rfl⟩
 have eR:a<s.heap.objs.size:=aq T.at_;refine wpAny_pyIter_slot hT PySem.F.slot_set_iter (wpAny_call_entry PySem.F.slot_set_iter hT OP ?_ (PySem.F.args_set_iter_1 _));show wpAny _ _ (Builtin.Frozenset.sizeOf a >>= _) _ _ s;unfold Builtin.Frozenset.sizeOf;refine aa (aa (Dp T (ag ?_)));unfold setDrawn;refine aa (aa (wpAny_setState_of T.at_ rfl T.fits ?_));dsimp only;unfold setsByText;refine aa (aa (wpAny_askSetting (ag ?_)));refine ag ?_;have here:∀(first:Value) (s1:Shared) (Q1:Fin->Shared->Prop) (T1:cJ prog w s1.heap a es ep t),(∀o,o=qz first 0 a es.size ep->Q1 (.done (.ret (.ref s1.heap.objs.size))) { s1 with heap:=s1.heap.push o })->wpAny (model prog w) A.in1 (do
   let e <-setEpoch a
   let v <-newFields "set_iterator" [first,rawInt 0,Value.ref a,rawInt es.size,rawInt e]
   ret v) Q1 E s1:=by
  intro first s1 Q1 T1 q1;refine aa (wpAny_setEpoch_of T1.at_ rfl T1.fits ?_);refine aa (wpAny_newObj_type (ag (q1 _ rfl)) (by size_fits))
 refine wpAny_ite_split (fun hc=>?_) fun hc=>?_
 ·refine aa (IZ es.size _ _ _ (by simp) fun ps d hp=>?_);have Uz:ps.length<=sizeLine:=by rw[hp.length_eq,List.length_range];exact fits_of_scanBound T.small
  refine aa (wpAny_newTuple ?_ (by rw[ae];exact Uz));have T1:cJ prog w (s.heap.push { cls:=.type "tuple",data:=.seq (ps.map fun(p:Nat)=>rawInt p).toArray }) a es ep t:=T.kept fun o e=>af _ e
  refine here _ _ _ T1 fun o ho=>?_
  subst ho;refine⟨_,rfl,"set_iterator",_,⟨_,ax _ rfl,rfl⟩,f7.lookup,?_⟩;have i5:(s.heap.push { cls:=.type "tuple",data:=.seq (ps.map fun(p:Nat)=>rawInt p).toArray }).objs.size=s.heap.objs.size+1:=Heap.size_push ..
  refine q _ _ d ⟨⟨[_,s.heap.objs.size,a],_,_,Po hp,fun A hh=>QA (t:=t) (by rw[i5];exact aD (Nat.lt_succ_of_lt eR)) (by rw[i5];exact aD (Nat.lt_succ_self _)) hp hh,
   ⟨ax _ rfl,T1.kept fun o e=>af _ e,af _ (ax _ rfl)⟩,fun b hb=>?_⟩,fun b o e=>af _ (af _ e),by rw[i5];exact bp _,⟨_,ax _ rfl,rfl⟩⟩
  simp only[ah,aK,or_false] at hb;rcases hb with rfl | rfl | rfl
  ·right;rw[i5];exact bp _
  ·right;exact aw _
  ·left;rfl
 ·refine aa (ag ?_);refine here _ _ _ T fun o ho=>?_
  subst ho;refine⟨_,rfl,"set_iterator",_,⟨_,ax _ rfl,rfl⟩,f7.lookup,?_⟩;have KD:∀b∈[s.heap.objs.size,a],b=a\/s.heap.objs.size<=b:=fun b hb=>by
   simp only[ah,aK,or_false] at hb;rcases hb with rfl | rfl
   ·right;exact aw _
   ·left;rfl
  have eP:a≠s.heap.objs.size:=aD eR;have T1:cJ prog w (s.heap.push (qz (rawInt 0) 0 a es.size ep)) a es ep t:=T.kept fun o e=>af _ e
  cases hf:w.params.followText "set-order" with
  | true=>
   exact q _ _ s.drawn ⟨⟨_,_,_,(IY (w.params.setOrder a ep) es).map _,fun A hh=>Pp (t:=t) eP hf hh,⟨ax _ rfl,T1⟩,KD⟩,fun b o e=>af _ e,aw _,⟨_,ax _ rfl,rfl⟩⟩
  | false=>
   have Fg:¬((!t.plain&&decide (es.size>1))=true):=fun z=>hc (by
    show(!(w.params.followText "set-order")&&(!t.plain&&decide (es.size>1)))=true;rw[hf,z];rfl)
   have h1:es.size<=1:=by
    rcases T.marks.plain with h | h
    ·omega
    ·rw[h] at Fg;simp at Fg;exact Fg
   exact q _ _ s.drawn ⟨⟨_,_,_,.refl _,fun A hh=>QB (t:=t) eP hf h1 hh,⟨0,ax _ rfl,T1,fun _=>rfl,fun z=>by omega⟩,KD⟩,fun b o e=>af _ e,aw _,⟨_,ax _ rfl,rfl⟩⟩
theorem ON{a:Addr}{Q:Bool->Shared->Prop}(hT:s.TypeIs (.ref a) "set")(h:Q false s):wpAny (model prog w) A (Builtin.List.listLengthHint (.ref a)) Q E s:=by
 unfold Builtin.List.listLengthHint;refine aa (wpAny_specialOf hT PySem.F.slot_set_len.lookup ?_);generalize Kf:("set.__len__":String)=Ud;wp_delta
 rw[show splitId Ud=some ("set","__len__") from by subst Kf;decide +kernel];subst Kf;refine aa (wpAny_isInstance (T:="set") (b:=true) hT (by rw[isSubtype_type];kernel_rfl) ?_);refine wpAny_ite_split (fun kP=>absurd kP (by decide)) (fun _=>wpAny_ite_split (fun _=>?_) (fun kP=>absurd (by decide +kernel) kP));exact aa (wpAny_typeOf hT (ag h))
theorem Qz{R:Result->Shared->Prop}{a:Addr}{es:Array (Int×Value)}{ep:Nat}{t:SetTable}(T:cJ prog w s.heap a es ep t)(hh:A.handled=none)(S:Addr)(Ks:S≠a)(res:Value)(c0:Nat)(hS:s.heap.get? S=some { cls:=.type "list",data:=.seq #[] c0 })
  (hR:∀h' d tk (acc:Array Value) c',(∀b o,b≠S->s.heap.get? b=some o->h'.get? b=some o)->h'.get? S=some { cls:=.type "list",dict:=none,data:=.seq acc c',slots:=#[] }->acc.toList.Perm (es.toList.map (·.2))->R (.ok (.ret res)) { s with heap:=h',drawn:=d,toks:=tk }) :
  wpAny (model prog w) A.in1 (Builtin.List.listExtendWith (.ref S) (.ref a) res) (fun fin s'=>match fin with | .done f=>R (.ok f) s' | .again c'=>c'.quiet=true/\codeAny (model prog w) A c' R s') (fun e s'=>R (.error e) s') s:=by
 have hT:s.TypeIs (.ref a) "set":=⟨_,T.at_,rfl⟩
 have Kr:S<s.heap.objs.size:=aq hS;unfold Builtin.List.listExtendWith;refine aa (wpAny_typeOf (T:="set") hT ?_);have h1:Builtin.List.listSameRef (.ref S) (.ref a)=false:=by simp[Builtin.List.listSameRef,Ks]
 have h2:(Value.type "set"==Value.type "list")=false:=by decide
 have h3:(Value.type "set"==Value.type "tuple")=false:=by decide
 simp only[h1,h2,h3,Bool.or_false,ay,aX];refine aa (OO T fun I h0 d L=>?_);obtain⟨fp,vals,St,hv,W,st,UU⟩:=L.ex;have u5:S∉fp:=fun z=>by
  rcases UU S z with e | e
  ·exact Ks e
  ·exact Nat.lt_irrefl _ (aF Kr e)
 have V1:S≠I:=fun z=>Nat.lt_irrefl _ (aF Kr (z▸L.new))
 have go:∀(h:Heap) (c1 tk:Nat),St 0 h->(∀b o,b≠S->s.heap.get? b=some o->h.get? b=some o)->h.get? S=some { cls:=.type "list",data:=.seq #[] c1 }->
   codeAny (model prog w) A (.builtin "list.extend.loop" ⟨[.ref S,.ref I,res],[]⟩) R { s with heap:=h,drawn:=d,toks:=tk }:=by
  intro h c1 tk gI hk Fm;refine codeAny_extend_loopS (W A.in1 hh).toS (fits_of_scanBound T.small) S u5 res es.size 0 _ #[] c1 rfl (bg _) gI Fm (ItemsOf.nil _) fun s' ju c' hm sv jt=>?_
  rw[Moved.eq_with hm];refine hR s'.heap d s'.toks ju c' (fun b o hb e=>hm.heap b o (fun kZ=>?_) (hk b o hb e)) sv ?_
  ·rcases ah.mp kZ with e' | kZ
   ·exact hb e'
   ·exact absurd (aq e) (by rw[aO.mp kZ];exact Nat.not_lt.mpr L.new)
  ·have e:ju.toList=vals:=by
    apply List.ext_getElem?;intro j;by_cases hj:j<ju.size
    ·have:=jt.2 j ju[j] (by simp[hj]);rw[this];simp[hj]
    ·have JW:vals.length=es.size:=by rw[hv.length_eq];simp
     have:=jt.1;rw[List.getElem?_eq_none (by simp;omega),List.getElem?_eq_none (by omega)]
   rw[e];exact hv
 have Fn:=L.old _ _ hS;refine aa (aQ (ON (s:={ s with heap:=h0,drawn:=d }) ⟨_,L.old _ _ T.at_,rfl⟩ ?_));refine wpAny_ite_split (fun _=>?_) (fun _=>ag ⟨plainId_quiet PySem.F.plain_extend_loop _,go _ c0 _ st (fun b o _ e=>L.old b o e) Fn⟩);refine aa (wpAny_rule (aa ?_));show wpAny _ _ (updateSeq S (·.push .none) >>= fun _=>updateSeq S (·.pop)) _ _ _;refine aa (wpAny_updateSeq Fn rfl ?_);have Kt:=Heap.get?_update_self (Obj.mapSeq (·.push Value.none)) Fn rfl;refine wpAny_updateSeq (hz:=by seq_fits) Kt rfl ?_;have U9:=Heap.get?_update_self (Obj.mapSeq (·.pop)) Kt rfl;refine ag ⟨plainId_quiet PySem.F.plain_extend_loop _,go _ _ _ ?_ (fun b o hb e=>?_) U9⟩
 ·refine(W A.in1 hh).frame 0 _ _ st fun b hb o e=>?_
  have Kn:b≠S:=fun h=>u5 (h▸hb)
  exact(aU _ _ (Ne.symm Kn)).trans ((aU _ _ (Ne.symm Kn)).trans e)
 ·exact(aU _ _ (Ne.symm hb)).trans ((aU _ _ (Ne.symm hb)).trans (L.old _ _ e))
end
end L2
namespace L2
open PySem PySem.Spec PyProof.Rows
section
variable {prog:Program} {w:World} {A:Around} {E:Value->Shared->Prop} {s:Shared}
theorem Q9{R:List Value->Shared->Prop}{a:Addr}{es:Array (Int×Value)}{ep:Nat}{t:SetTable}(T:cJ prog w s.heap a es ep t)(hh:A.handled=none)
  (h:∀(h':Heap) (d:Drawn) (tk:Nat) (vs:List Value),s.heap.objs.size<h'.objs.size->(∀b o,s.heap.get? b=some o->h'.get? b=some o)->vs.Perm (es.toList.map (·.2))->R vs { s with heap:=h',drawn:=d,toks:=tk }):wpAny (model prog w) A (collect (.ref a)) R E s:=by
 have eR:a<s.heap.objs.size:=aq T.at_;unfold collect;refine aa (wpAny_runValue (codeAny_builtin entry_proto_collect' ?_));rw[Around.under_plainId PySem.F.plain_proto_collect _];show wpAny _ A.in1 (newList [] >>= fun l=>again (.builtin "list.__iadd__" ⟨[l,.ref a],[]⟩)) _ _ s;refine aa (wpAny_newObj_type (ag ⟨plainId_quiet PySem.F.plain_list_iadd _,codeAny_builtin entry_list_iadd' ?_⟩));rw[Around.under_plainId PySem.F.plain_list_iadd _];have Fm:(s.heap.push { cls:=.type "list",data:=.seq ([]:List Value).toArray }).get? s.heap.objs.size=some { cls:=.type "list",data:=.seq #[] }:=ax _ rfl;show wpAny _ A.in1 (Builtin.List.listExtendWith (.ref s.heap.objs.size) (.ref a) (.ref s.heap.objs.size)) _ _ _;have key:=Qz (A:=A) (s:={ s with heap:=s.heap.push { cls:=.type "list",data:=.seq ([]:List Value).toArray } })
  (R:=fun(q:Result) (s':Shared)=>∃(h':Heap) (d:Drawn) (tk:Nat) (acc:Array Value) (c':Nat),q=.ok (.ret (.ref s.heap.objs.size))/\s'={ s with heap:=h',drawn:=d,toks:=tk }/\
   (∀b o,s.heap.get? b=some o->h'.get? b=some o)/\h'.get? s.heap.objs.size=some { cls:=.type "list",dict:=none,data:=.seq acc c',slots:=#[] }/\acc.toList.Perm (es.toList.map (·.2)))
  (T.kept fun o e=>af _ e) hh s.heap.objs.size (Nat.ne_of_gt eR) (.ref s.heap.objs.size) 0 Fm
  (fun h' d tk acc c' hk sv jt=>⟨h',d,tk,acc,c',rfl,rfl,fun b o e=>hk b o (aD (aq e)) (af _ e),sv,jt⟩)
 refine bc key (fun fin s' x=>?_) fun e s' x=>?_
 ·cases fin with
  | done f=>
   obtain⟨h',d,tk,acc,c',e,rfl,hk,sv,jt⟩:=x;cases e;show wpAny _ A (load s.heap.objs.size >>= _) _ _ _;exact aa (wpAny_load sv (ag (h h' d tk acc.toList (aq sv) hk jt)))
  | again c1=>
   refine⟨x.1,codeAny_mono x.2 fun q s2 y=>?_⟩;obtain⟨h',d,tk,acc,c',rfl,rfl,hk,sv,jt⟩:=y;show wpAny _ A (load s.heap.objs.size >>= _) _ _ _;exact aa (wpAny_load sv (ag (h h' d tk acc.toList (aq sv) hk jt)))
 ·obtain⟨_,_,_,_,_,e',_⟩:=x;cases e'
theorem IW:∀{vs:List Value},(∀v∈vs,∃x t,v=.str x t)->StrsAre vs (vs.map strOf)
 | [],_=>.nil
 | v::r,h=>by
  obtain⟨x,t,rfl⟩:=h v (by simp);exact .cons x t (IW fun u hu=>h u (by simp[hu]))
theorem Q0{a:Addr}{es:Array (Int×Value)}{ep:Nat}{t:SetTable}{Q:Value->Shared->Prop}(T:cJ prog w s.heap a es ep t)(hh:A.handled=none)(wA:es.size<64)
  (h:∀(p:Addr) (h':Heap) (d:Drawn) (tk:Nat) (out:Array Value) (e:Nat) (ss:List Str),s.heap.objs.size<=p->(∀b o,s.heap.get? b=some o->h'.get? b=some o)->h'.get? p=some (seqObj "list" out e)->StrsAre out.toList ss->ss.Perm (keysOf es)->sortedS ss=true->Q (.ref p) { s with heap:=h',drawn:=d,toks:=tk }) :
  wpAny (model prog w) A (call (.builtin "sorted") [.ref a]) Q E s:=by
 refine Calls.call_function_entry kind_sorted plain_sorted entry_sorted (args_sorted1 _) ?_;unfold Builtin.«sorted»;refine aa (m:=checkCount "sorted" 1 1 _) (ag (aa (Q9 (A:=A.in1) T hh fun h' d tk vs eR hk hp=>?_)));have JW:vs.length=es.size:=by rw[hp.length_eq];simp
 have Uk:∀v∈vs,∃x t,v=.str x t:=fun v hv=>by
  obtain⟨e,he,rfl⟩:=aN.mp (hp.mem_iff.mp hv);obtain⟨⟨k,hk,_⟩,_⟩:=T.el e he;obtain⟨t,ht⟩:=Value.isStrOf_shape hk;exact⟨k,t,ht⟩
 have hS:=IW Uk;refine aa (wpAny_newList ?_ (by rw[JW];exact fits_of_scanBound T.small));have pT:(h'.push (seqObj "list" vs.toArray 0)).get? h'.objs.size=some (seqObj "list" vs.toArray 0):=ax _ rfl;refine aa (aQ (wpAny_call_entry slot_list_sort ⟨_,pT,rfl⟩ entry_list_sort (list_sort_treeK (s:={ s with heap:=h'.push (seqObj "list" vs.toArray 0),drawn:=d,toks:=tk }) strKind_oneLt pT hS.keysOf (fun v1 v2 rest e=>keyKind_strs (by rw[<-e];exact hS)) (by omega) fun fv a1 a2=>⟨_,rfl,?_⟩) (args_list_sort _)));obtain⟨jr,b1,b2,b3⟩:=sorted_out_str hS a1 a2;obtain⟨en,UX⟩:=sortedHeap_at (out:=(arrOf fv).map (·.2)) pT;have hle:s.heap.objs.size<=h'.objs.size:=Nat.le_of_lt eR;refine ag ⟨_,rfl,h _ _ d tk _ en jr hle (fun b o e=>?_) UX b1 (b2.trans ?_) b3⟩
 ·have e1:=hk b o e;have hb:b<h'.objs.size:=aq e1;rw[sortedHeap_old (aD hb) (by rw[size_push'];exact Nat.lt_succ_of_lt hb)];exact af _ e1
 ·have:=hp.map strOf;rw[br] at this;exact this
theorem Inv.draw{X:Cx}{pins:List (Addr×Obj)}{σ:St}{H:Hp}{s:Shared}(I:Inv X pins σ H s)(d:Drawn):Inv X pins σ H { s with drawn:=d }:=
 ⟨I.ok,I.os,I.bare,I.base,I.loc,I.cell,I.free,I.eU,I.pin,I.cB,I.len⟩
end
section
variable {X:Cx} {pos:Pos} {e:Expr} {te:TD} {ts:iI} {t:TA}
def OM(K:PySem.W.Frag)(t:TA):TE:=fun σ H Q=>t σ H fun vs H1=>∃(p:Addr) (ss:List Str),vs=[.ref p]/\gc K H1 p (ss.map V.str)/\ss.length<4000/\(∀l:List Str,l.Nodup->(∀x∈l,x∈ss)->l.length<64)/\
 ∀l:List Str,l.Nodup->(∀x,x∈l↔x∈ss)->sortedS l=true->∀q,H1 q=none->Q (.ref q) (upd H1 q (.lst (l.map V.str)))
theorem QZ{p1 p2 fQ:Pos}(hc:X.calm=true)(pU:X.mg "sorted"=none)(jJ:X.mg "set"=none)(ha:PA X [e] t)(zm:Gl X "sorted":=by rfl)(sk:Gl X "set":=by rfl)
  (he:starEach [e] X.env=(false,eval e X.env)::starEach [] X.env:=by rfl) (qM:starEach [.Call (.Name "set" p2) [e] [] fQ] X.env=(false,eval (.Call (.Name "set" p2) [e] [] fQ) X.env)::starEach [] X.env:=by rfl) :
  PE X (.Call (.Name "sorted" p1) [.Call (.Name "set" p2) [e] [] fQ] [] pos) (OM X.K t):=by
 intro pins s σ H Q I h;refine wpAny_Call_Name_kw (uj I zm pU boot_sorted ?_ (by decide) (by decide));refine PyProof.Rows.callWith_builtin1 ?_ qM rfl;rw[qM];show wpAny _ _ (spliced ((false,eval (.Call (.Name "set" p2) [e] [] fQ) X.env)::backTo pos (starEach [] X.env))) _ _ s;refine Calls.spliced_cons ?_;refine wpAny_Call_Name_kw (uj I sk jJ IE ?_ (by decide) (by decide));refine PyProof.Rows.callWith_type1 (cK (ha fQ pins s σ H _ I h) fun us s1 bV=>?_) he rfl;obtain⟨vs,H1,I1,r1,q1⟩:=bV;obtain⟨p,ss,rfl,hq,hn,wA,q⟩:=q1;obtain⟨u,rfl,ru⟩:=lQ r1;cases ru;obtain⟨its,rv,pl,hz⟩:=I1.list hq;have hS:=Jj rv;refine Pq (I1.ok.hd hc) pl.isList hS (by have:scanBound=4096:=rfl;omega) fun h1 A1 es ep tb T Hd UO=>?_
 have I2:Inv X pins σ H1 { s1 with heap:=h1,toks:=A1 }:=I1.kept fun b o e=>UO b o (aq e) e
 refine Calls.spliced_nil ?_;have i5:es.size<64:=by
  have:=wA (keysOf es) Hd.nd fun x hx=>(Hd.mem x).mp hx
  simpa[keysOf] using this
 refine Q0 (s:={ s1 with heap:=h1,toks:=A1 }) T (I1.ok.hd hc) i5 fun pp h2 d Tj out en yI hp zf zx Ut wt Uu=>?_
 have tP:yI.Nodup:=wt.nodup_iff.mpr Hd.nd;have EV:yI.length<64:=by rw[wt.length_eq];simpa[keysOf] using i5
 have hf:H1 pp=none:=I2.cB.fresh hp;refine⟨.ref pp,upd H1 pp (.lst (yI.map V.str)),?_,rfl,q yI tP (fun x=>by rw[wt.mem_iff];exact Hd.mem x) Uu pp hf⟩;have I3:=Inv.laid (t':=Tj) (Inv.draw I2 d) (h':=h2) (a:=pp) (o:=.lst (yI.map V.str)) zf hp ?_
 ·exact I3
 ·refine⟨by rw[ae];have:=CW;omega,out.toList,en,C1 Ut,?_⟩;rw[Array.toArray_toList];exact zx
theorem Rr{p1 p2 fQ:Pos}(hc:X.calm=true)(pU:X.mg "sorted"=none)(jJ:X.mg "set"=none)(ha:lb X [e] ts)(zm:Gl X "sorted":=by rfl)(sk:Gl X "set":=by rfl)
  (he:starEach [e] X.env=(false,eval e X.env)::starEach [] X.env:=by rfl) (qM:starEach [.Call (.Name "set" p2) [e] [] fQ] X.env=(false,eval (.Call (.Name "set" p2) [e] [] fQ) X.env)::starEach [] X.env:=by rfl) :
  PD X (.Call (.Name "sorted" p1) [.Call (.Name "set" p2) [e] [] fQ] [] pos) (ek AG ts):=by
 obtain⟨t,pp,q⟩:=ha;refine⟨_,QZ hc pU jJ pp zm sk he qM,fun ρ σ G0 H0 G H Q P E h k=>q ρ σ G0 H0 G H _ _ E h fun vs H' ds G' x rs hq=>?_⟩;unfold AG at hq;split at hq
 ·split at hq
  ·rename_i es ss hs;obtain⟨v,rfl,rv⟩:=kH rs;simp only[Rep] at rv;obtain⟨a,xs,rfl,h1,h2⟩:=rv;rw[Dh hs] at h2;rw[CV h2] at h1;refine⟨a,ss,rfl,(x.s.gH h1).sq,hq.1,hq.2.1,fun l nd hm so=>?_⟩;exact tf x.s (IF l) (hq.2.2 l nd hm so) fun v H2 r G2 x2 rr qq=>k v H2 r G2 (x.trans x2) (rr.ef x.h) qq
  ·exact hq.elim
 ·exact hq.elim
end
end L2
namespace L2
open PySem PySem.Spec PyProof.Rows
end L2
namespace L2
open PySem PySem.Spec PyProof.Rows
structure M2 (X:Cx) (o:Expr) (m:Str) (apos:Pos) (e f:Expr) (eQ:Pos):Prop where
 base:attributeBase o m X.env (eval o X.env)=eval o X.env
 tV:((backTo eQ (starEach [e,f] X.env)).all (fun x=>!x.1)&&(backToKw eQ (keywordEach [] X.env)).all (fun x=>x.1.isSome)
  && decide (([e,f]:List Expr).length+([]:List Keyword).length+(if ([]:List Keyword).isEmpty then 0 else 1)<30))=true
 line:(apos.endLine==eQ.line)=true
 trees:backTo eQ (starEach [e,f] X.env)=[(false,eval e X.env),(false,eval f X.env)]
end L2
namespace PySem
open Sem (wp)
end PySem
namespace PySem
open Sem (wp)
end PySem
namespace PySem
open Sem (wp)
end PySem
namespace L2
open PySem PySem.Spec PyProof.Rows
noncomputable def Ly:D->Option Key
 | .int i=>some (.inl i)
 | .str x=>some (.inr x)
 | _=>none
noncomputable def BP:Key->D
 | .inl i=>.int i
 | .inr x=>.str x
noncomputable def look(cI:List (Key×D))(k:Key):Option D:=(cI.find? fun kv=>decide (kv.1=k)).map (·.2)
end L2
namespace L2
open PySem PySem.Spec PyProof.Rows
section
variable {K:PySem.W.Frag} {G H:Hp}
theorem b9.length:∀{qs:List Addr} {cg:List (List D)},b9 K G H qs cg->qs.length=cg.length
 | [],[],_=>rfl
 | q::qs,ds::cg,h=>by
  simp only[b9] at h;simp only[aB,b9.length h.2]
 | [],_::_,h=>by simp only[b9] at h
 | _::_,[],h=>by simp only[b9] at h
theorem b9.snoc{p:Addr}{ds:List D}{zs:List V}:∀{qs:List Addr} {cg:List (List D)},b9 K G H qs cg->H p=some (.lst zs)->bB K G zs ds->b9 K G H (qs++[p]) (cg++[ds])
 | [],[],_,h1,h2=>by simp only[List.nil_append,b9];exact⟨⟨zs,h1,h2⟩,trivial⟩
 | q::qs,es::cg,h,h1,h2=>by
  simp only[b9] at h;simp only[List.cons_append,b9];exact⟨h.1,b9.snoc h.2 h1 h2⟩
 | [],_::_,h,_,_=>by simp only[b9] at h
 | _::_,[],h,_,_=>by simp only[b9] at h
end
def xy(wi:kQ)(m:List (Option Nat))(g:ij)(tc:iP)(te:TD):TD:=fun ρ Q=>wi ρ fun ds=>∃Iv:Nat->List (List D)->Prop,Iv 0 []/\
 (∀i d acc,ds[i]?=some d->Iv i acc->g d (fY m ρ) fun dR=>tc dR fun b=>if b=true then te dR fun r=>match r with
  | .ow es=>acc.length<sizeLine/\Iv (i+1) (acc++[es])
  | _=>False
  else Iv (i+1) acc)/\∀acc,Iv ds.length acc->Q (.ov (.ll acc))
section
variable {X:Cx} {elt iter tg:Expr} {ifs:List Expr} {scope:Scope} {pos:Pos} {N':List Str} {m:List (Option Nat)} {wi:kQ} {g:ij} {tc:iP} {te:TD}
theorem Pg(cs:cp X N' m scope)(hk:pC m g){ww:TI}{gg:m8 TG}{tw:m8 TT}{tee:m8 TE}
  (q1:∀(ρ:Ev) (σ:St) (G0 H0 G H:Hp) (Q:List D->Prop) (P:It->Hp->Prop),cF X.K G0 H0 ρ σ G H->wi ρ Q->(∀J H' ds G',Ext G H G' H'->rf X.K J G' ds->Q ds->P J H')->ww σ H P)
  (q2:∀s3 H3 ex (ρ:Ev) (σ:St) (G0 H0 G H:Hp) (d:D) (v:V) (Q:Ev->Prop) (P:St->Hp->Prop),cF X.K G0 H0 ρ σ G H->Rep X.K G v d->g d ρ Q->(∀ρ' cc G' H',cF X.K G0 H0 ρ' cc G' H'->Ext G H G' H'->Q ρ'->P cc H')->gg s3 H3 ex v σ H P)
  (q3:∀s3 H3 ex (ρ:Ev) (σ:St) (G0 H0 G H:Hp) (Q:Bool->Prop) (P:Bool->Hp->Prop),cF X.K G0 H0 ρ σ G H->tc ρ Q->(∀b H' G',Ext G H G' H'->Q b->P b H')->tw s3 H3 ex σ H P)
  (q4:∀s3 H3 ex,qQ X.K te (tee s3 H3 ex)):qQ X.K (xy wi m g tc te) (sT ww m gg tw tee):=by
 refine fun ρ σ G0 H0 G H Q P E h k=>q1 ρ σ G0 H0 G H _ _ E h fun J H1 ds G1 x1 wk hq=>?_
 obtain⟨Iv,i0,turn,fin⟩:=hq;intro D hD s3 ex;have E1:=E.ext x1;have Fq:G1 D=none:=x1.s.free hD;have iZ:∀{i:Nat} {es:List L2.D},gt (fY m ρ) i=.ow es->False:=fun{i es} h=>by
  unfold fY at h;rw[qB] at h;split at h
  ·rename_i o _;unfold oO at h;split at h
   ·cases h
   ·split at h<;>cases h
  ·cases h
 have pN:∀{i:Nat} {o:OV},gt (fY m ρ) i=.ov o->False:=fun{i o} h=>by
  unfold fY at h;rw[qB] at h;split at h
  ·rename_i o _;unfold oO at h;split at h
   ·cases h
   ·split at h<;>cases h
  ·cases h
 have j3:cF X.K G1 H1 (fY m ρ) (pQ m σ) G1 (upd H1 D (.lst [])):=by
  refine⟨.own x1.s hD,by simp[pQ,fY],fun i d h=>?_,fun i es h=>(iZ h).elim,fun i j es fs _ h=>(iZ h).elim,fun _=>none,fun i es _ h=>(iZ h).elim,fun i o h=>(pN h).elim⟩;unfold fY at h;rw[qB] at h;split at h
  ·rename_i o ho;unfold oO at h;split at h
   ·cases h
   ·rename_i j;split at h
    ·rename_i d' sr;cases h;obtain⟨v,hv,rv⟩:=E1.fz j d sr;refine⟨v,?_,rv⟩;unfold pQ;rw[aR,ho];simp[hv]
    ·cases h
  ·cases h
 refine⟨fun i n cc H'=>n=ds.length-i/\i<=ds.length/\∃acc fp G',cF X.K G1 H1 (fY m ρ) cc G' H'/\H' D=some (.lst (fp.map V.ref))/\G' D=none/\b9 X.K G' H' fp acc/\(D::fp).Nodup/\(∀q∈fp,H1 q=none/\G' q=none)/\Iv i acc,
  ⟨ds.length,by simp,bg _,[],[],G1,j3,gB,Fq,by simp only[b9],by simp,fun q hq=>(by cases hq),i0⟩,?_⟩
 rintro i n cc H' ⟨rfl,hi,acc,fp,G',E',hx,zo,rx,nd,fr,iv⟩;by_cases eR:i<ds.length
 ·obtain⟨w1,w2⟩:=wk;obtain⟨go,yl⟩:=w1 i ds[i] G' H' (ao eR) E'.e.g E'.e.s;refine .inr ⟨go,fun jB H2=>∃acc fp G',cF X.K G1 H1 (fY m ρ) jB G' H2/\H2 D=some (.lst (fp.map V.ref))/\G' D=none/\b9 X.K G' H2 fp acc/\(D::fp).Nodup/\(∀q∈fp,H1 q=none/\G' q=none)/\Iv (i+1) acc,fun jB H2 h2=>⟨ds.length-(i+1),by omega,rfl,eR,h2⟩,fun v H2 hy=>?_⟩;obtain⟨G2,x2,rv⟩:=yl v H2 hy;refine q2 _ _ _ (fY m ρ) cc G1 H1 G2 H2 ds[i] v _ _ (E'.ext x2) rv (hk _ _ _ (turn i ds[i] acc (ao eR) iv)) fun pj j7 G3 H3 E3 x3 gN=>?_
  obtain⟨gN,EU,EZ⟩:=gN;have weak:∀j,gt (fY m ρ) j=.un\/gt (fY m ρ) j=gt pj j:=fun j=>by
   cases hm:m[j]? with
   | none=>left;unfold fY;rw[qB,hm]
   | some o=>
    cases o with
    | none=>left;unfold fY;rw[qB,hm];rfl
    | some c=>right;exact(EZ j c hm).symm
  have yx:=x2.trans x3;refine q3 _ _ _ pj j7 G1 H1 G3 H3 _ _ E3 gN fun b H4 G4 x4 rW=>?_
  have qI:=yx.trans x4;have E4:=(E3.ext x4).weak (ρ':=fY m ρ) (EU.symm) weak;have tL:H4 D=some (.lst (fp.map V.ref)):=qI.h _ _ hx;have zl:G4 D=none:=qI.n D zo (by rw[hx];exact nofun);have r4:b9 X.K G4 H4 fp acc:=rx.mono qI.g fun q _ zs e=>qI.h _ _ e
  have wB:∀q∈fp,H1 q=none/\G4 q=none:=fun q hq=>⟨(fr q hq).1,qI.n q (fr q hq).2 (rx.here q hq)⟩
  cases b with
  | false=>
   rw[if_neg az] at rW ⊢;exact⟨acc,fp,G4,E4,tL,zl,r4,nd,wB,rW⟩
  | true=>
   rw[if_pos rfl] at rW ⊢;refine q4 _ _ _ pj j7 G1 H1 G4 H4 _ _ (E3.ext x4) rW fun v5 H5 r5 G5 x5 D0 uS=>?_
   split at uS
   ·rename_i es;obtain⟨p,zs,rfl,c1,c2,c3,c4⟩:=D0;have E6:=E4.ext x5;have Ep:H5 D=some (.lst (fp.map V.ref)):=x5.h _ _ tL;have zk:G5 D=none:=x5.n D zl (by rw[tL];exact nofun);have J6:p≠D:=fun z=>by rw[z,tL] at c1;cases c1
    have UB:p∉fp:=fun z=>r4.here p z c1
    have Vf:D∉fp:=fun z=>(aY.mp nd).1 z
    have r6:b9 X.K G5 (upd H5 D (.lst ((fp++[p]).map V.ref))) (fp++[p]) (acc++[es]):=by
     refine b9.snoc (r4.mono x5.g fun q hq ys e=>?_) ?_ c4
     ·rw[cN (fun z:q=D=>Vf (z▸hq))];exact x5.h _ _ e
     ·rw[cN J6];exact c3
    refine⟨fp.map V.ref,Ep,by rw[ae,r4.length];exact uS.1,acc++[es],fp++[p],G5,?_,by rw[show fp.map V.ref++[V.ref p]=(fp++[p]).map V.ref by simp];exact gB,zk,by rw[show fp.map V.ref++[V.ref p]=(fp++[p]).map V.ref by simp];exact r6,?_,fun q hq=>?_,uS.2⟩
    ·refine⟨⟨E6.e.g,fun b o e=>by rw[cN (gX e hD)];exact E6.e.h b o e,fun b o e=>by rw[cN (gX e zk)];exact E6.e.s b o e,E6.e.n⟩,E6.len,E6.fz,fun i es h=>(iZ h).elim,fun i j es fs _ h=>(iZ h).elim,fun _=>none,fun i es _ h=>(iZ h).elim,fun i o h=>(pN h).elim⟩
    ·rw[aY] at nd ⊢;refine⟨fun z=>?_,?_⟩
     ·rcases av.mp z with z | z
      ·exact nd.1 z
      ·simp at z;exact J6 z.symm
     ·rw[List.nodup_append];refine⟨nd.2,by simp,fun a ha b hb=>?_⟩;simp at hb;subst hb;exact fun z=>UB (z▸ha)
    ·rcases av.mp hq with hq | hq
     ·exact⟨(wB q hq).1,x5.n q (wB q hq).2 (r4.here q hq)⟩
     ·simp at hq;subst hq;exact⟨E4.e.h.free c1,c2⟩
   ·exact uS.elim
 ·have e:i=ds.length:=by omega
  subst e;refine .inl ⟨wk.2 G' H' E'.e.g E'.e.s,k _ H' (.ov (.ll acc)) G' (x1.trans E'.e) ⟨D,fp,rfl,nd,⟨hx,rx⟩,fun q hq=>?_⟩ (fin acc iv)⟩;rcases ah.mp hq with rfl | hq
  ·exact⟨x1.h.free hD,zo⟩
  ·exact⟨x1.h.free (fr q hq).1,(fr q hq).2⟩
theorem Pf(i:Nat){x:Str}{pos' iD:Pos}(hc:X.calm=true)(cs:cp X N' m scope)(hk:pC m g)(hi:PId X tg iter wi)(hg:∀s3 H3 ex,qo (lM X N' scope s3 H3 ex) tg g)(ht:∀s3 H3 ex,wF (lM X N' scope s3 H3 ex) ifs tc)
  (he:∀s3 H3 ex,PD (lM X N' scope s3 H3 ex) elt te) (hN:X.N.Nodup:=by assumption) (sj:X.N[i]?=some x:=by rfl) (hx:Loc X.env.scope x:=by first | exact Or.inl rfl | exact Or.inr rfl) (hs:∀x,foldedSetIterable iter X.env x=pure x:=by intro _;rfl)
  (rV:swapsWith (.ListComp elt [⟨tg,iter,ifs,0⟩] scope pos) (some (.Name x pos')) iD.line X.env=pure true:=by rfl)
  (hf:X.fn x=true\/X.env.scope.names.lookup x=some .local:=by first | exact .inl rfl | exact .inr rfl | assumption) :
  PX X (.Assign [.Name x pos'] (.ListComp elt [⟨tg,iter,ifs,0⟩] scope pos) iD) (mH i (xy wi m g tc te)):=by
 obtain⟨ww,p1,q1⟩:=hi;refine⟨_,CB (g:=fun s3 H3 ex=>(hg s3 H3 ex).choose) (tc:=fun s3 H3 ex=>(ht s3 H3 ex).choose) (te:=fun s3 H3 ex=>(he s3 H3 ex).choose) hN sj hx hc cs p1 (fun s3 H3 ex=>(hg s3 H3 ex).choose_spec.1) (fun s3 H3 ex=>(ht s3 H3 ex).choose_spec.1) (fun s3 H3 ex=>(he s3 H3 ex).choose_spec.1) hs rV hf,fun ρ σ G0 H0 G H D E k h gg=>?_⟩;exact Pg cs hk q1 (fun s3 H3 ex=>(hg s3 H3 ex).choose_spec.2) (fun s3 H3 ex=>(ht s3 H3 ex).choose_spec.2) (fun s3 H3 ex=>(he s3 H3 ex).choose_spec.2) ρ σ G0 H0 G H _ _ k h fun v H' r G' x rr hq=>gg.nx _ _ G' H' x.g (k.put x rr) hq
end
end L2
namespace L2
open PySem PySem.Spec PyProof.Rows
theorem IV{K:PySem.W.Frag}{G G':Hp}:∀{vs:List V} {ds:List D},ds.all qA=true->bB K G vs ds->bB K G' vs ds
 | [],[],_,_=>bB.nil
 | v::vs,d::ds,h,r=>by
  simp only[bB] at r;rw[List.all_cons,Bool.and_eq_true] at h;exact bB.cons (CU h.1 r.1) (IV h.2 r.2)
 | [],_::_,_,r=>by simp only[bB] at r
 | _::_,[],_,r=>by simp only[bB] at r
end L2
namespace L2
open PySem PySem.Spec PyProof.Rows
section
variable {X:Cx} {pos:Pos} {e i':Expr} {te ti:TD}
noncomputable def pairsOf:List D->Option (List (Key×D))
 | []=>some []
 | .tup [k,v]::r=>match Ly k with
  | some key=>(pairsOf r).map ((key,v)::·)
  | none=>none
 | _=>none
end
end L2
namespace L2
open PySem PySem.Spec PyProof.Rows
end L2
namespace HT
open PySem PyProof.Rows
end HT
namespace L2
open PySem PySem.Spec PyProof.Rows
end L2
namespace HT
end HT
namespace L2
open PySem PySem.Spec PyProof.Rows
end L2
namespace L2
open PySem PySem.Spec PyProof.Rows
theorem Pe{G H0 H:Hp}{L:List Addr}{p:Addr}{xs:List V}(hs:bL G H)(hH:bL H0 H)(h0:∀q∈L,H0 q≠none)(hL:∀q∈L,∀xs,¬Rd H0 q (.tup xs))(h:G p=some (.tup xs)):jX G L p=some (.tup xs):=by
 have hp:p∉L:=fun hp=>by
  cases e:H0 p with
  | none=>exact h0 p hp e
  | some u=>
   have e2:=hH p u e;refine hL p hp xs ?_;left;have:=hs _ _ h;rw[e2] at this;rw[e,this]
 unfold jX;rw[if_neg hp];exact h
end L2
namespace L2
open PySem PySem.Spec PyProof.Rows
end L2
namespace Ts
open PySem PyProof.Rows
variable {M:Model} {A:Around} {E:Value->Shared->Prop} {s:Shared}
end Ts
namespace Ts
open PySem PyProof.Rows
variable {α:Type} (rk:α->Int)
variable {rk}
end Ts
namespace Ts
open PySem PyProof.Rows
variable {M:Model} {A:Around} {E:Value->Shared->Prop} {s:Shared}
def tX(rk:Keyed->Int)(l:List Keyed):Prop:=l.Pairwise fun x y=>rk x<=rk y
noncomputable abbrev dk:Keyed:=(Value.none,Value.none)
end Ts
namespace Ts
open PySem PyProof.Rows
end Ts
namespace Ts
open PySem PyProof.Rows
variable {M:Model} {A:Around} {E:Value->Shared->Prop} {s:Shared}
end Ts
namespace Ts
open PySem PyProof.Rows
variable {M:Model} {A:Around} {E:Value->Shared->Prop} {s:Shared}
end Ts
namespace Ts
open PySem PyProof.Rows
noncomputable def kr(rk:Keyed->Int)(xs:Array Keyed)(i:Nat):Int:=rk (xs.getD i dk)
variable {M:Model} {A:Around} {E:Value->Shared->Prop} {s:Shared}
end Ts
namespace Ts
open PySem PyProof.Rows
variable {M:Model} {A:Around} {E:Value->Shared->Prop} {s:Shared}
end Ts
namespace Ts
open PySem PyProof.Rows
variable {M:Model} {A:Around} {E:Value->Shared->Prop} {s:Shared}
end Ts
namespace Ts
open PySem PyProof.Rows
variable {M:Model} {A:Around} {E:Value->Shared->Prop} {s:Shared}
end Ts
namespace Ts
open PySem PySem.W PyProof.Rows
section
variable {n N:Nat} {r:Nat->Int} {cmp:Nat->Nat->(Bool->Shared->Prop)->Shared->Prop} {s:Shared} {p:Array Nat} {i j k m:Nat}
noncomputable def kp(r:Nat->Int)(p:Array Nat)(i:Nat):Int:=r (p.getD i 0)
def Pm(n:Nat)(p:Array Nat):Prop:=p.toList.Perm (List.range n)
def Up(r:Nat->Int)(p:Array Nat)(m:Nat):Prop:=∀i j,i<=j->j<m->kp r p i<=kp r p j
abbrev Dn(r:Nat->Int):Array Nat->Nat->Prop:=Up fun x=>-r x
abbrev Cm(n:Nat)(r:Nat->Int)(cmp:Nat->Nat->(Bool->Shared->Prop)->Shared->Prop)(s:Shared):Prop:=∀i j (C:Bool->Shared->Prop),i<n->j<n->C (decide (r i<r j)) s->cmp i j C s
theorem Pm.size(h:Pm n p):p.size=n:=by have:=h.length_eq;simpa using this
theorem Pm.lt(h:Pm n p)(hn:0<n)(i:Nat):p.getD i 0<n:=by
 by_cases hi:i<p.size
 ·have e:p.getD i 0=p[i]:=by simp[Array.getD,hi]
  rw[e];exact List.mem_range.mp (h.mem_iff.mp (by simp))
 ·have e:p.getD i 0=0:=by simp[Array.getD,hi]
  rw[e];exact hn
theorem Pm.to{q:Array Nat}(h:Pm n p)(k:q.Perm p):Pm n q:=(Array.perm_iff_toList_perm.mp k).trans h
theorem xP{q:Array Nat}(h:p[i]?=q[j]?):kp r p i=kp r q j:=by
 unfold kp;rw[Array.getD_eq_getD_getElem?,Array.getD_eq_getD_getElem?,h]
theorem lH:kp (fun x=>-r x) p i=-kp r p i:=rfl
theorem Up.more(u:Up r p m)(h1:1<=m)(h:kp r p (m-1)<=kp r p m):Up r p (m+1):=fun i j ot hj=>by
 by_cases e:j<m
 ·exact u i j ot e
 ·obtain rfl:j=m:=by omega
  by_cases e2:i=j
  ·subst e2;exact Int.le_refl _
  ·exact Int.le_trans (u i (j-1) (by omega) (by omega)) h
theorem Up.same{q:Array Nat}(u:Up r p m)(h:∀i,kp r q i=kp r p i):Up r q m:=fun i j a b=>by rw[h,h];exact u i j a b
theorem B6(hj:j<=p.size)(k:Nat):kp r (kas_rev p i j) k=if i<=k/\k<j then kp r p (i+j-1-k) else kp r p k:=by
 have e:=getElem?_mirror_all (i:=i) hj k;by_cases h1:i<=k/\k<j
 ·rw[if_pos h1] at e ⊢;exact xP e
 ·rw[if_neg h1] at e ⊢;exact xP e
theorem B5(hj:j<=p.size)(heq:∀k,i<=k->k<j->kp r p k=kp r p (j-1))(k:Nat):kp r (kas_rev p i j) k=kp r p k:=by
 rw[B6 hj];by_cases h:i<=k/\k<j
 ·rw[if_pos h,heq _ (by omega) (by omega),heq k h.1 h.2]
 ·rw[if_neg h]
theorem Up.turn(u:Dn r p m)(hm:m<=p.size):Up r (kas_rev p 0 m) m:=fun i j ot hj=>by
 rw[B6 hm,B6 hm,if_pos ⟨bg _,by omega⟩,if_pos ⟨bg _,hj⟩];have:=u (0+m-1-j) (0+m-1-i) (by omega) (by omega);rw[lH,lH] at this;omega
theorem Pm.rev(h:Pm n p):Pm n (kas_rev p i j):=h.to (mirror_perm _ _ _ _)
theorem B4(hc:Cm n r cmp s)(hn:0<n)(hp:Pm n p){G:Nat->Shared->Prop}:∀k m,1<=m->m+k=N->Up r p m->(∀m',1<=m'->m'<=N->Up r p m'->(m'<N->kp r p m'<kp r p (m'-1))->G m' s)->(kas_asc p k m).kasWp cmp G s
 | 0,m,h1,e,u,g=>g m h1 (by omega) u (by omega)
 | k+1,m,h1,e,u,g=>by
  refine hc _ _ _ (hp.lt hn _) (hp.lt hn _) ?_;by_cases h:kp r p m<kp r p (m-1)
  ·rw[show decide (r (p.getD m 0)<r (p.getD (m-1) 0))=true from decide_eq_true h];exact g m h1 (by omega) u fun _=>h
  ·rw[show decide (r (p.getD m 0)<r (p.getD (m-1) 0))=false from aL h];exact B4 hc hn hp k (m+1) (by omega) (by omega) (u.more h1 (by omega)) g
theorem An(hc:Cm n r cmp s)(hn:0<n)(hN:N<=n){G:Array Nat×Nat×Nat->Shared->Prop}(g:∀p m q,Pm n p->1<=m->m<=N->Dn r p m->q<m->(∀t,t<=q->kp r p (m-1-t)=kp r p (m-1))->G (p,m,q) s) :
  ∀k p m q,Pm n p->1<=m->m+k=N->Dn r p m->q<m->(∀t,t<=q->kp r p (m-1-t)=kp r p (m-1))->(kas_desc k p m q).kasWp cmp G s
 | 0,p,m,q,hp,h1,e,d,hq,eq=>g p m q hp h1 (by omega) d hq eq
 | k+1,p,m,q,hp,h1,e,d,hq,eq=>by
  have i5:=hp.size;refine hc _ _ _ (hp.lt hn _) (hp.lt hn _) ?_;by_cases h:kp r p m<kp r p (m-1)
  ·rw[show decide (r (p.getD m 0)<r (p.getD (m-1) 0))=true from decide_eq_true h];simp only[bh];by_cases c:q>0
   ·rw[if_pos c];have km:=B5 (r:=r) (p:=p) (i:=m-(q+1)) (j:=m) (by omega) fun x a b=>by
     have:=eq (m-1-x) (by omega);rwa [show m-1-(m-1-x)=x by omega] at this
    refine An hc hn hN g k _ (m+1) 0 hp.rev (by omega) (by omega) (Up.more (d.same fun x=>by rw[lH,lH,km]) h1 ?_) (by omega) fun t ht=>by rw[show t=0 by omega];rfl
    rw[lH,lH,km,km];omega
   ·rw[if_neg c];refine An hc hn hN g k _ (m+1) 0 hp (by omega) (by omega) (Up.more d h1 ?_) (by omega) fun t ht=>by rw[show t=0 by omega];rfl
    rw[lH,lH];omega
  ·rw[show decide (r (p.getD m 0)<r (p.getD (m-1) 0))=false from aL h];simp only[ay,aX];refine hc _ _ _ (hp.lt hn _) (hp.lt hn _) ?_;by_cases h2:kp r p (m-1)<kp r p m
   ·rw[show decide (r (p.getD (m-1) 0)<r (p.getD m 0))=true from decide_eq_true h2];exact g p m q hp h1 (by omega) d hq eq
   ·rw[show decide (r (p.getD (m-1) 0)<r (p.getD m 0))=false from aL h2];refine An hc hn hN g k _ (m+1) (q+1) hp (by omega) (by omega) (Up.more d h1 ?_) (by omega) fun t ht=>?_
    ·rw[lH,lH];omega
    ·by_cases t0:t=0
     ·subst t0;rfl
     ·have:=eq (t-1) (by omega);rw[show m+1-1-t=m-1-(t-1) by omega,this,show m+1-1=m by omega];omega
section
variable {G:Nat×Array Nat->Shared->Prop} (g:∀m p,Pm n p->1<=m->m<=N->Up r p m->G (m,p) s)
include g
theorem HS(hc:Cm n r cmp s)(hn:0<n)(hN:N<=n)(hp:Pm n p)(h1:1<=m)(hm:m<=N)(d:Dn r p m):(kas_tail3 m N p).kasWp cmp G s:=by
 unfold kas_tail3;rw[KasT.kasWp_bind];exact B4 (N:=N) hc hn hp.rev (N-m) m h1 (by omega) (Up.turn d (by rw[hp.size];omega)) fun m' a b u _=>g m' _ hp.rev a b u
theorem Ju(hc:Cm n r cmp s)(hn:0<n)(hN:N<=n)(hp:Pm n p)(hm:m+1<=N)(d:Dn r p (m+1)):(kas_descPart m N p).kasWp cmp G s:=by
 unfold kas_descPart;rw[KasT.kasWp_bind];refine An hc hn hN (fun p m q hp h1 hm d hq eq=>?_) (N-(m+1)) p (m+1) 0 hp (by omega) (by omega) d (by omega) fun t ht=>by rw[show t=0 by omega];rfl
 have i5:=hp.size;dsimp only;by_cases c:q>0
 ·rw[if_pos c];have km:=B5 (r:=r) (p:=p) (i:=m-(q+1)) (j:=m) (by omega) fun x a b=>by
   have:=eq (m-1-x) (by omega);rwa [show m-1-(m-1-x)=x by omega] at this
  exact HS g hc hn hN hp.rev h1 hm (d.same fun x=>by rw[lH,lH,km])
 ·rw[if_neg c];exact HS g hc hn hN hp h1 hm d
theorem Pd(hc:Cm n r cmp s)(hn:0<n)(hN:N<=n)(h1:1<=N)(hp:Pm n p):(kas_count N p).kasWp cmp G s:=by
 unfold kas_count;rw[KasT.kasWp_bind];refine B4 (N:=N) hc hn hp (N-1) 1 (aw _) (by omega) (fun i j a b=>by rw[show i=j by omega];exact Int.le_refl _) fun m a b u hd=>?_
 by_cases e:m=N
 ·rw[if_pos (by simpa using e)];exact g m p hp a b u
 rw[if_neg (by simpa using e)];have VY:=hd (by omega);have i5:=hp.size;by_cases c:m>1
 ·rw[if_pos c];refine hc _ _ _ (hp.lt hn _) (hp.lt hn _) ?_;by_cases h:kp r p 0<kp r p (m-1)
  ·rw[show decide (r (p.getD 0 0)<r (p.getD (m-1) 0))=true from decide_eq_true h];exact g m p hp a b u
  ·rw[show decide (r (p.getD 0 0)<r (p.getD (m-1) 0))=false from aL h];have same:∀x,0<=x->x<m->kp r p x=kp r p (m-1):=fun x _ hx=>by
    have:=u 0 x (bg _) hx;have:=u x (m-1) (by omega) (by omega);omega
   have km:=B5 (r:=r) (p:=p) (i:=0) (j:=m) (by omega) same;refine Ju g hc hn hN hp.rev (by omega) (Up.more (fun i j ot hj=>?_) a ?_)
   ·rw[lH,lH,km,km,same i (bg _) (by omega),same j (bg _) hj];exact Int.le_refl _
   ·rw[lH,lH,km,km];omega
 ·rw[if_neg c];obtain rfl:m=1:=by omega
  refine Ju g hc hn hN hp (by omega) (Up.more (fun i j ot hj=>by rw[show i=j by omega];exact Int.le_refl _) (aw _) ?_);rw[lH,lH];omega
end
theorem CM(hc:Cm n r cmp s)(hn:0<n)(hp:Pm n p)(u:Up r p k){G:Nat->Shared->Prop}(g:∀l,l<=k->(∀i,i<l->kp r p i<=kp r p k)->(∀i,l<=i->i<k->kp r p k<kp r p i)->G l s) :
  ∀f l h,l<=h->h<=k->h-l<=f->(∀i,i<l->kp r p i<=kp r p k)->(∀i,h<=i->i<k->kp r p k<kp r p i)->(kas_place p k f l h).kasWp cmp G s
 | 0,l,h,a,b,c,lo,hi=>g l (by omega) lo fun i x y=>hi i (by omega) y
 | f+1,l,h,a,b,c,lo,hi=>by
  unfold kas_place;by_cases e:l>=h
  ·rw[if_pos e];exact g l (by omega) lo fun i x y=>hi i (by omega) y
  ·rw[if_neg e];refine hc _ _ _ (hp.lt hn _) (hp.lt hn _) ?_;by_cases q:kp r p k<kp r p ((l+h)/2)
   ·rw[show decide (r (p.getD k 0)<r (p.getD ((l+h)/2) 0))=true from decide_eq_true q];exact CM hc hn hp u g f l _ (by omega) (by omega) (by omega) lo fun i x y=>Int.lt_of_lt_of_le q (u _ i x y)
   ·rw[show decide (r (p.getD k 0)<r (p.getD ((l+h)/2) 0))=false from aL q];exact CM hc hn hp u g f _ h (by omega) b (by omega) (fun i x=>Int.le_trans (u i _ (by omega) (by omega)) (Int.not_lt.mp q)) hi
theorem GW(hc:Cm n r cmp s)(hn:0<n){G:Array Nat->Shared->Prop}(g:∀p,Pm n p->Up r p n->G p s):∀f p k,Pm n p->k+f=n->Up r p k->(kas_bin f p k).kasWp cmp G s
 | 0,p,k,hp,e,u=>g p hp (by rwa [show n=k by omega])
 | f+1,p,k,hp,e,u=>by
  unfold kas_bin;rw[KasT.kasWp_bind];refine CM hc hn hp u (fun l hl lo hi=>?_) k 0 k (bg _) (aw _) (by omega) (fun i h=>by omega) fun i h h'=>by omega
  have hb:∀i,kp r (bubble p k (k-l)) i=if i=l then kp r p k else if l<i/\i<=k then kp r p (i-1) else kp r p i:=fun i=>by
   have e:=getElem?_bubble (xs:=p) (src:=k) (by rw[hp.size];omega) (k-l) (by omega) i;rw[show k-(k-l)=l by omega] at e;by_cases c1:i=l
   ·rw[if_pos c1] at e ⊢;exact xP e
   ·rw[if_neg c1] at e ⊢;by_cases c2:l<i/\i<=k
    ·rw[if_pos c2] at e ⊢;exact xP e
    ·rw[if_neg c2] at e ⊢;exact xP e
  refine GW hc hn g f _ (k+1) (hp.to (bubble_perm _ _ _)) (by omega) fun i j ot hj=>?_
  rw[hb,hb];by_cases c1:i=l
  ·rw[if_pos c1];by_cases c2:j=l
   ·rw[if_pos c2];exact Int.le_refl _
   ·rw[if_neg c2,if_pos (by omega)];exact Int.le_of_lt (hi _ (by omega) (by omega))
  ·rw[if_neg c1];by_cases c3:l<i/\i<=k
   ·rw[if_pos c3,if_neg (by omega),if_pos (by omega)];exact u _ _ (by omega) (by omega)
   ·rw[if_neg c3];by_cases c2:j=l
    ·rw[if_pos c2];exact lo i (by omega)
    ·rw[if_neg c2];by_cases c4:l<j/\j<=k
     ·rw[if_pos c4];exact u _ _ (by omega) (by omega)
     ·rw[if_neg c4];exact u _ _ ot (by omega)
theorem NX(hc:Cm n r cmp s)(hn:0<n){G:Array Nat->Shared->Prop}(g:∀p,Pm n p->Up r p n->G p s):(kas_sort n).kasWp cmp G s:=by
 unfold kas_sort;rw[KasT.kasWp_bind];refine Pd (fun m p hp a b u=>?_) hc hn (aw n) hn (show Pm n _ by unfold Pm;simp);dsimp only;by_cases e:m<n
 ·rw[if_pos e,show max m 1=m by omega];exact GW hc hn g _ p m hp (by omega) u
 ·rw[if_neg e];exact g p hp (by rwa [show n=m by omega])
end
end Ts
namespace Ts
open PySem PyProof.Rows
section
variable {prog:Program} {w:World} {A:Around} {E:Value->Shared->Prop} {s:Shared}
structure Ky (prog:Program) (w:World) (A:Around) (s:Shared) (κ:SortKind) (ok:Keyed->Prop) (rk:Keyed->Int):Prop where
 key:∀x y (C:Bool->Shared->Prop),ok x->ok y->C (decide (rk x<rk y)) s->wpAny (model prog w) A (keyLt' κ x.1 y.1) C (fun _ _=>False) s
def jO(n:Nat):Prop:=∀{prog:Program} {w:World} {A:Around} {E:Value->Shared->Prop} {s:Shared} {κ:SortKind} {rk:Keyed->Int} {it:Array Keyed} (R:Ky prog w A s κ (fun x=>x∈it) rk) {Q:Unit->SortSt->Prop},it.size=n->
 (∀fv,(arrOf fv).toList.Perm it.toList->tX rk (arrOf fv).toList->failedOf fv=none->Q () fv)->wpS (model prog w) A E s sortRuns' Q (SortSt.mk' κ it #[] 7 none)
structure Ask (prog:Program) (w:World) (A:Around) (E:Value->Shared->Prop) (vs:List Value) (rk:Keyed->Int) (s:Shared):Prop where
 ask:2<=vs.length->∃κ,(∀Q':SortKind->Shared->Prop,Q' κ s->wpAny (model prog w) A (keyKind' vs.toArray) Q' E s)/\Ky prog w A s κ (fun x=>x∈pairsOf vs) rk
theorem Pn{rk:Keyed->Int}{l:List Keyed}(h:l.length<2):tX rk l:=by
 cases l with
 | nil=>exact .nil
 | cons a r=>
  cases r with
  | nil=>exact List.pairwise_singleton _ _
  | cons b t=>
   simp only[aB] at h;omega
theorem Q8{a:Addr}{vs:List Value}{n:Nat}{P:Fin->Shared->Prop}{rk:Keyed->Int}(ho:s.heap.get? a=some (seqObj "list" vs.toArray n))(hl:vs.length<=sizeLine)(hr:2<=vs.length->jO vs.length)
  (R:∀h',(∀b o,b≠a->s.heap.get? b=some o->h'.get? b=some o)->Ask prog w A E vs rk { s with heap:=h' })
  (h:∀fv:SortSt,(arrOf fv).toList.Perm (pairsOf vs).toList->tX rk (arrOf fv).toList->P (.done (.ret .none)) { s with heap:=sortedHeap s.heap a vs ((arrOf fv).map (·.2)) }) :
  wpAny (model prog w) A (Builtin.«list.sort» ⟨[.ref a],[]⟩) P E s:=by
 rw[list_sort_plain];have ha:a<s.heap.objs.size:=aq ho;refine aa (listItems_at ho rfl ?_);refine aa (listUpdate_at ho rfl ?_ (by simpa using hl) (bg _));obtain⟨e1,J7⟩:∃e1,(s.heap.update a (Obj.mapSeq fun _=>#[])).get? a=some (seqObj "list" #[] e1):=⟨_,get?_update_seq ho (fun _=>#[])⟩
 refine aa (seqEpoch_at J7 rfl ?_);refine aa (wpAny_newTuple ?_ (by show vs.length<=_;exact hl));refine aa (wpAny_newList ?_ (bg _));refine aQ ?_;have Bj:(((s.heap.update a (Obj.mapSeq fun _=>#[])).push (seqObj "tuple" vs.toArray 0)).push (seqObj "list" #[] 0)).get? a=some (seqObj "list" #[] e1):=by
  rw[Heap.get?_push_ne _ _ _ (by rw[size_push',Heap.size_update];exact aD (Nat.lt_succ_of_lt ha)),Heap.get?_push_ne _ _ _ (by rw[Heap.size_update];exact aD ha)];exact J7
 have ak:=R (((s.heap.update a (Obj.mapSeq fun _=>#[])).push (seqObj "tuple" vs.toArray 0)).push (seqObj "list" #[] 0)) (fun b o hb e=>af _ (af _ ((aU _ _ (Ne.symm hb)).trans e)));show wpAny (model prog w) A _ P E { s with heap:=((s.heap.update a (Obj.mapSeq fun _=>#[])).push (seqObj "tuple" vs.toArray 0)).push (seqObj "list" #[] 0) };dsimp only;have i5:vs.toArray.size=vs.length:=by simp
 have fin:=h;by_cases h2:vs.toArray.size<2
 ·rw[if_pos h2,if_pos h2];refine aa (ag ?_);rw[StateT.run_pure];refine aa (ag ?_);dsimp only;refine aa (seqEpoch_at Bj rfl ?_);refine aa (listUpdate_at Bj rfl ?_ (bg _) (by rw[Array.size_map];show(pairsOf vs).size<=_;rw[pairsOf_size];exact Nat.le_succ_of_le hl));simp only[bne_self_eq_false,ay,aX];refine ag (fin (SortSt.mk' general' (vs.toArray.zip vs.toArray) #[] 7 none) (List.Perm.refl _) ?_);show tX rk (pairsOf vs).toList;exact Pn (by rw[aG,pairsOf_size];omega)
 ·rw[if_neg h2,if_neg h2];obtain⟨κ,ka,kr⟩:=ak.ask (by omega);refine aa (ka _ ?_)
  refine aa (bc (hr (by omega) kr
   (Q:=fun _ fv=>(arrOf fv).toList.Perm (pairsOf vs).toList/\tX rk (arrOf fv).toList/\failedOf fv=none) (pairsOf_size vs) fun fv a1 a2 a3=>⟨a1,a2,a3⟩) ?_ fun _ _ e=>e)
  rintro⟨⟨⟩,fv⟩ s' ⟨rfl,hp,hs,hf⟩;dsimp only;refine aa (seqEpoch_at Bj rfl ?_)
  refine aa (listUpdate_at Bj rfl ?_ (bg _) (by
   rw[Array.size_map,<-aG,hp.length_eq,aG,pairsOf_size];exact Nat.le_succ_of_le hl))
  rw[hf];simp only[bne_self_eq_false,ay,aX];exact ag (fin fv hp hs)
theorem lU{l:Addr}{vs:List Value}{Q:Value->Shared->Prop}{rk:Keyed->Int}(hl:s.heap.IsList l vs.toArray)(hz:vs.length<=sizeLine)(hr:2<=vs.length->jO vs.length)
  (R:∀h',(∀b o,s.heap.get? b=some o->h'.get? b=some o)->Ask prog w A.in1.in1 E vs rk { s with heap:=h' })
  (h:∀fv:SortSt,(arrOf fv).toList.Perm (pairsOf vs).toList->tX rk (arrOf fv).toList->Q (.ref (s.heap.objs.size+1)) { s with heap:=sortedAll s.heap vs ((arrOf fv).map (·.2)) }) :
  wpAny (model prog w) A (call (.builtin "sorted") [.ref l]) Q E s:=by
 refine Calls.call_function_entry kind_sorted plain_sorted entry_sorted (args_sorted1 _) ?_;unfold Builtin.«sorted»;refine aa (m:=checkCount "sorted" 1 1 _) (ag ?_);refine aa (collect_list hl ?_ hz);refine aa (wpAny_newList ?_ hz);have i5:((s.heap.push (seqObj "list" #[] 0)).update s.heap.objs.size (Obj.mapSeq (·++vs.toArray))).objs.size=s.heap.objs.size+1:=by
  rw[Heap.size_update,size_push']
 have pT:(((s.heap.push (seqObj "list" #[] 0)).update s.heap.objs.size (Obj.mapSeq (·++vs.toArray))).push (seqObj "list" vs.toArray 0)).get? (s.heap.objs.size+1)=some (seqObj "list" vs.toArray 0):=by
  rw[<-i5];exact ax _ rfl
 have keep:∀b o,s.heap.get? b=some o->(((s.heap.push (seqObj "list" #[] 0)).update s.heap.objs.size (Obj.mapSeq (·++vs.toArray))).push (seqObj "list" vs.toArray 0)).get? b=some o:=fun b o q=>by
  have eR:b<s.heap.objs.size:=aq q;rw[Heap.get?_push_ne _ _ _ (by rw[i5];exact aD (Nat.lt_succ_of_lt eR)),Heap.get?_update_ne _ _ _ _ (aD eR),Heap.get?_push_ne _ _ _ (aD eR)];exact q
 show wpAny _ _ _ _ _ { s with heap:=((s.heap.push (seqObj "list" #[] 0)).update s.heap.objs.size (Obj.mapSeq (·++vs.toArray))).push (seqObj "list" vs.toArray 0) };rw[i5];refine aa (aQ (wpAny_call_entry slot_list_sort ⟨_,pT,rfl⟩ entry_list_sort (Q8 (rk:=rk) pT hz hr (fun h' k=>R h' fun b o e=>k b o (aD (Nat.lt_succ_of_lt (aq e))) (keep b o e)) fun fv a1 a2=>⟨_,rfl,?_⟩) (args_list_sort _)));exact ag ⟨_,rfl,h fv a1 a2⟩
end
end Ts
namespace HT
end HT
namespace Ts
open PySem PySem.W PyProof.Rows
end Ts
namespace Ts
open PySem PySem.W PyProof.Rows
theorem nG{n:Nat}(h1:2<=n)(wA:n<64):jO n:=by
 intro prog w A E s κ rk it R Q hn q;have mem:∀i,i<n->kas_item it i∈it:=fun i hi=>by
  have e:kas_item it i=it[i]:=by unfold kas_item;simp[Array.getD,hn,hi]
  rw[e];exact Array.getElem_mem _
 have hit:(List.toArray (List.range n)).map (kas_item it)=it:=by rw[<-hn];exact kas_range it
 have hl:(List.range n).map (kas_item it)=it.toList:=by
  have:=congrArg Array.toList hit;simpa using this
 have:=kas_runs (prog:=prog) (w:=w) (A:=A) (E:=E) (κ:=κ) (it:=it) (Q:=fun u st s'=>s'=s/\Q u st) (G:=fun p s'=>s'=s/\Pm n p/\Up (fun i=>rk (kas_item it i)) p n) (s:=s) h1 wA (fun p st s' hz ha hf ⟨e,hp,hu⟩=>⟨e,?_⟩)
  (NX (r:=fun i=>rk (kas_item it i)) (fun i j C hi hj hC=>R.key _ _ C (mem i hi) (mem j hj) hC) (by omega) fun p hp hu=>⟨rfl,hp,hu⟩)
 ·unfold kas_st at this;rw[hit] at this;exact this
 ·refine q st ?_ ?_ hf
  ·rw[ha,Array.toList_map,<-hl];exact hp.map _
  ·rw[ha,Array.toList_map];refine List.pairwise_iff_getElem.mpr fun i j hi hj ot=>?_
   have UP:i<p.size:=by simpa using hi
   have Bm:j<p.size:=by simpa using hj
   have:=hu i j (by omega) (by omega);unfold kp at this;simp only[Array.getD,UP,Bm,dif_pos] at this;simpa using this
end Ts
namespace L2
open PySem PySem.Spec PyProof.Rows
theorem IU{α β:Type}{f:α->β}{a b:List β}(h:a.Perm b):∀{L:List α},b=L.map f->∃L':List α,L'.Perm L/\a=L'.map f:=by
 induction h with
 | nil=>intro L e;exact⟨[],by rw[show L=[] from by simpa using e.symm],rfl⟩
 | cons x h ih=>
  intro L e;cases L with
  | nil=>cases e
  | cons y L=>
   rw[au] at e;injection e with e1 e2
   obtain⟨L',h1,h2⟩:=ih e2;exact⟨y::L',h1.cons y,by rw[au,e1,h2]⟩
 | swap x y l=>
  intro L e;match L,e with
  | [],e=>cases e
  | [_],e=>cases e
  | u::v::L,e=>
   simp only[au,List.cons.injEq] at e;exact⟨v::u::L,List.Perm.swap u v L,by simp[e]⟩
 | trans h1 h2 Uc Ub=>
  intro L e;obtain⟨L2,a1,a2⟩:=Ub e;obtain⟨L3,b1,b2⟩:=Uc a2;exact⟨L3,b1.trans a1,b2⟩
section
variable {X:Cx} {pos:Pos} {e:Expr} {te:TD}
theorem Cv{α:Type}{f:α->V}{g:α->Value}:∀{L:List α},(∀q∈L,RelV (f q) (g q))->Vals (L.map f) (L.map g)
 | [],_=>.nil
 | q::L,h=>.cons (h q bj) (Cv fun x hx=>h x (aA _ hx))
theorem Cu{α:Type}{K:PySem.W.Frag}{G:Hp}{f:α->V}{g:α->D}:∀{L:List α},(∀q∈L,Rep K G (f q) (g q))->bB K G (L.map f) (L.map g)
 | [],_=>bB.nil
 | q::L,h=>bB.cons (h q bj) (Cu fun x hx=>h x (aA _ hx))
end
end L2
namespace L2
open PySem PySem.Spec PyProof.Rows
end L2
namespace L2
open PySem PySem.Spec PyProof.Rows
end L2
namespace L2
open PySem PySem.Spec PyProof.Rows
end L2
namespace PySem
open Sem (wp)
end PySem
namespace PySem
open Sem (wp)
end PySem
namespace L2
open PySem PySem.Spec PyProof.Rows
end L2
namespace L2
open PySem PySem.Spec PyProof.Rows
end L2
namespace L2
open PySem PySem.Spec PyProof.Rows
section
variable {K:PySem.W.Frag} {G0 H0 G H G' H' G2 H2:Hp} {ρ:Ev} {σ:St} {v:V}
theorem cF.unset{i:Nat}{u:Option V}(E:cF K G0 H0 ρ σ G H):cF K G0 H0 (ρ.set i .un) (σ.set i u) G H:=by
 have gs:∀j s,gt (ρ.set i .un) j=s->s≠.un->i≠j/\gt ρ j=s:=fun j s e hs=>by
  rw[rC] at e;by_cases h:i=j/\j<ρ.length
  ·rw[if_pos h] at e;exact absurd e.symm hs
  ·rw[if_neg h] at e;exact⟨fun z=>h ⟨z,vq e hs⟩,e⟩
 have ss:∀j,i≠j->(σ.set i u)[j]?=σ[j]?:=fun j h=>by rw[List.getElem?_set,if_neg h]
 obtain⟨own,o1,o2⟩:=E.on;refine⟨E.e,by simp[E.len],fun j d h=>?_,fun j ds h=>?_,fun j k ds es lY h1 h2=>?_,own,fun j ds p h hp=>?_,fun j o h=>?_⟩
 ·obtain⟨n,h⟩:=gs j _ h (by simp);rw[ss j n];exact E.fz j d h
 ·obtain⟨n,h⟩:=gs j _ h (by simp);rw[ss j n];exact E.ow j ds h
 ·obtain⟨n,h1⟩:=gs j _ h1 (by simp);obtain⟨n2,h2⟩:=gs k _ h2 (by simp);rw[ss j n,ss k n2];exact E.dj j k ds es lY h1 h2
 ·obtain⟨n,h⟩:=gs j _ h (by simp);rw[ss j n] at hp;exact o1 j ds p h hp
 ·obtain⟨n,h⟩:=gs j _ h (by simp);rw[ss j n];exact o2 j o h
end
end L2
namespace PySem
open Sem (wp)
end PySem
namespace L2
open PySem PySem.Spec PyProof.Rows
end L2
namespace L2
open PySem PySem.Spec PyProof.Rows
end L2
namespace PySem
open Sem (wp)
end PySem
namespace L2
open PySem PySem.Spec PyProof.Rows
end L2
namespace L2
open PySem
end L2
namespace L2
namespace SI
open PySem PySem.Spec PyProof.Rows
end SI
end L2
namespace L2
open PySem PySem.Spec PyProof.Rows
namespace SI
end SI
end L2
namespace L2
open PySem PySem.Spec PyProof.Rows
end L2
namespace L2
open PySem PySem.Spec PyProof.Rows
section
variable {P:Program} {w:World} {K:PySem.W.Frag} {mg:Str->Option Value} {base:Heap}
theorem jD{x:Str}{st:Stmt}{N ps:List Str}{t:eX}{T:TX}{n d:Nat}(k:Nat)(A:At K mg x st)(S:bI N ps (bx st))
  (body:∀(f:Addr) (cf:Value) (A:Around) (outer:List Env) (s:Shared) (H:Hp) (E:XK),cT k (A.deeper (envOfC x (bx st) s.heap.objs.size f cf))->md (jl hZ P w K mg base N x (bx st) f cf A outer s H E).kN (cq st) T)
  (spec:∀(ds:List D) (Qr:R->Prop),ds.length=n->t ds Qr->T { nx:=fun _=>Qr (.fz .non),rt:=Qr } (lS N ds))
  (b:∀(kV doc pm:Value) (an:Option Addr) (cf ct:Value) (us:List Value),us.length=n->bindArgs (PySem.W.fnOf x x (dX st) (cq st) (bx st) .none kV doc pm an cf ct) ⟨us,[]⟩=pure (ps.zip us)) (hn:ps.length=n:=by rfl) (hd:k+1=d:=by rfl):Known P w K mg base d x n t:=by
 subst hn hd;obtain⟨f,fd,F,hm⟩:=A.ex;exact⟨f,fd,ps,Hw F S (body f) spec,hm,F.kp,F.binds b⟩
end
end L2
namespace L2
open PySem PySem.Spec PyProof.Rows
end L2
namespace L2
open PySem PySem.Spec PyProof.Rows
end L2
namespace Ts
open PySem PySem.W PyProof.Rows
section
variable {prog:Program} {w:World} {A:Around} {E:Value->Shared->Prop} {s:Shared}
noncomputable def iY(h:Heap)(v:Value):Int×Str:=match v with
 | .ref a=>match h.get? a with
  | some o=>match o.data with
   | .seq xs _=>match xs.toList with
    | [.int i _,.str x _]=>(i,x)
    | _=>(0,"")
   | _=>(0,"")
  | none=>(0,"")
 | _=>(0,"")
def k9(h:Heap)(v:Value):Prop:=∃a o t u n,v=.ref a/\h.get? a=some o/\o.cls=.type "tuple"/\o.data=.seq #[.int (iY h v).1 t,.str (iY h v).2 u] n
theorem Jw{h h':Heap}(k:∀b o,h.get? b=some o->h'.get? b=some o):∀{its:List Value},(∀v∈its,k9 h v)->∃fs,KatTups h' its fs/\fs.length=its.length/\∀v∈fs,∃n t,v=Value.int n t
 | [],_=>⟨[],.nil,rfl,fun v hv=>by cases hv⟩
 | v::r,hv=>by
  obtain⟨fs,h1,h2,h3⟩:=Jw k (its:=r) fun x hx=>hv x (aA _ hx)
  obtain⟨a,o,t,u,n,rfl,ho,hc,hd⟩:=hv v bj
  exact⟨_,KatTups.cons (k _ _ ho) hc hd rfl h1,by simp[h2],fun x hx=>by
   rcases ah.mp hx with rfl | hx
   ·exact⟨_,_,rfl⟩
   ·exact h3 x hx⟩
theorem oC{h h':Heap}{its:List Value}(k:∀b o,h.get? b=some o->h'.get? b=some o)(hv:∀v∈its,k9 h v)(hd:∀v∈its,∀u∈its,(iY h v).1=(iY h u).1->(iY h v).2=(iY h u).2):Ask prog w A E its (fun x=>(iY h x.1).1) { s with heap:=h' }:=by
 refine⟨fun h2=>⟨tuples' (Value.type "int" != Value.type "tuple"),fun Q' q=>?_,⟨fun x y Q ox oy q=>?_⟩⟩⟩
 ·obtain⟨fs,h1,Fu,h3⟩:=Jw k hv;refine kat_kind (s:={ s with heap:=h' }) (T:=.type "int") h1 (by omega) (fun v hv=>?_) (by decide +kernel) q;obtain⟨n,t,rfl⟩:=h3 v hv;exact Looks.of_pure rfl
 ·have mem:∀z,z∈pairsOf its->k9 h z.1/\z.1∈its:=fun z hz=>by
   have:z.1∈its:=by
    unfold pairsOf at hz;have Eo:z∈its.zip its:=by simpa using hz
    exact(List.of_mem_zip Eo).1
   exact⟨hv _ this,this⟩
  obtain⟨⟨a,oa,t,u,n,ea,ga,ca,da⟩,ma⟩:=mem x ox;obtain⟨⟨b,ob,t',u',m,eb,gb,cb,db⟩,mb⟩:=mem y oy;have hs:=hd _ ma _ mb;generalize iY h x.1=p at *;generalize iY h y.1=p' at *;rw[ea,eb];have e2:(Value.type "int" != Value.type "tuple")=true:=by decide +kernel
  rw[e2];refine kat_lt (k _ _ ga) da (k _ _ gb) db ?_;refine kat_cons (wpAny_eqBool_int ?_);by_cases e:p.1=p'.1
  ·rw[e];simp only[BEq.rfl];refine kat_yes (kat_cons (wpAny_eqBool_str ?_));rw[hs e];simp only[decide_true];refine kat_yes (kat_nil ?_);rw[e,aL (Int.lt_irrefl _)] at q;exact q
  ·simp only[beq_eq_false_iff_ne.mpr e];exact kat_no (oneLt_int q)
end
end Ts
namespace L2
open PySem PySem.Spec PyProof.Rows
noncomputable def wD(p:Int×Str):D:=.tup [.int p.1,.str p.2]
section
variable {X:Cx}
theorem QY:c8 X (.builtin "sorted") (fun xs H Q=>∃(p:Addr) (ps:List (V×Int×Str)),xs=[.ref p]/\gc X.K H p (ps.map (·.1))/\(∀q∈ps,∃b,q.1=.ref b/\fH X.K H b [.int q.2.1,.str q.2.2])/\ps.length<64/\(∀a∈ps,∀b∈ps,a.2.1=b.2.1->a.2.2=b.2.2)/\
  ∀j5:List (V×Int×Str),j5.Perm ps->j5.Pairwise (fun x y=>x.2.1<=y.2.1)->∀l,H l=none->Q (.ref l) (upd H l (.lst (j5.map (·.1))))):=by
 intro pins s σ H xs us Q I r h;obtain⟨p,ps,rfl,hq,hk,hr,U0,q⟩:=h;obtain⟨u,rfl,ru⟩:=lQ r;cases ru;obtain⟨its,rv,pl,hz⟩:=I.list hq;have hl:ps.length=its.length:=by rw[<-rv.length,ae]
 obtain⟨LL,e1,e2⟩:∃LL:List ((V×Int×Str)×Value),ps=LL.map (·.1)/\its=LL.map (·.2):=
  ⟨ps.zip its,(List.map_fst_zip (by omega)).symm,(List.map_snd_zip (by omega)).symm⟩
 have rel:∀z∈LL,RelV z.1.1 z.2:=fun z hz=>by
  obtain⟨i,hi⟩:=List.getElem?_of_mem hz;have h1:(ps.map (·.1))[i]?=some z.1.1:=by rw[e1];simp[hi]
  obtain⟨v',uQ,rx⟩:=rv.get h1;have h2:its[i]?=some z.2:=by rw[e2];simp[hi]
  rw[h2] at uQ;cases uQ;exact rx
 have tup:∀z∈LL,Ts.k9 s.heap z.2/\Ts.iY s.heap z.2=z.1.2:=fun z hz=>by
  obtain⟨b,eb,sq⟩:=hk z.1 (by rw[e1];exact aI hz);have rz:=rel z hz;obtain⟨i1,v1,p1,_⟩:=I.tuple sq;obtain⟨o1,g1,c1,n1,d1⟩:=p1;obtain⟨⟨zv,zi,zs⟩,zw⟩:=z;simp only at eb rz v1 ⊢;subst eb;cases rz;obtain⟨u1,u2,rfl,⟨t1,rfl⟩,⟨t2,rfl⟩⟩:=vv v1;have e:Ts.iY s.heap (.ref b)=(zi,zs):=by
   unfold Ts.iY;simp only[g1,d1]
  exact⟨⟨b,o1,t1,t2,n1,rfl,g1,c1,by rw[e];exact d1⟩,e⟩
 refine Ts.lU (rk:=fun x=>(Ts.iY s.heap x.1).1) pl.isList (by rw[<-hl,<-ae (f:=(·.1))];exact hz) (fun h2=>Ts.nG (by omega) (by omega)) (fun h' k=>Ts.oC k (fun v hv=>?_) fun v hv u hu=>?_) fun fv hp hs=>?_
 ·rw[e2] at hv;obtain⟨z,hz,rfl⟩:=aN.mp hv;exact(tup z hz).1
 ·rw[e2] at hv hu;obtain⟨z,hz,rfl⟩:=aN.mp hv;obtain⟨y,hy,rfl⟩:=aN.mp hu;rw[(tup z hz).2,(tup y hy).2];exact U0 _ (by rw[e1];exact aI hz) _ (by rw[e1];exact aI hy)
 ·have ep:(PyProof.Rows.pairsOf its).toList=LL.map fun z=>((z.2,z.2):Keyed):=by
   unfold PyProof.Rows.pairsOf;rw[e2];simp only[List.zip_toArray];clear e1 e2 rel tup hp hs;induction LL with
   | nil=>rfl
   | cons a r ih=>simp at ih ⊢;exact ih
  obtain⟨L',h1,h2⟩:=IU (hp.trans (List.Perm.of_eq ep)) rfl;have uC:∀z∈L',RelV z.1.1 z.2:=fun z hz=>rel z (h1.subset hz)
  have out:((arrOf fv).map (·.2)).toList=L'.map (·.2):=by
   rw[Array.toList_map,h2,br];rfl
  obtain⟨en,he⟩:=sortedAll_at s.heap its ((arrOf fv).map (·.2));have hf:H (s.heap.objs.size+1)=none:=I.cB.fresh (bp _)
  have q':=q (L'.map (·.1)) (by rw[e1];exact h1.map _) (by
   rw[List.pairwise_map];unfold Ts.tX at hs;rw[h2,List.pairwise_map] at hs;refine hs.imp_of_mem fun{a b} ha hb kP=>?_
   have ta:=(tup a (h1.subset ha)).2;have tb:=(tup b (h1.subset hb)).2;simp only[ta,tb] at kP;omega) _ hf
  rw[br] at q';refine⟨.ref (s.heap.objs.size+1),_,I.laid (a:=s.heap.objs.size+1) (o:=.lst (L'.map ((·.1)∘(·.1)))) (t':=s.toks) (fun b o e=>sortedAll_old e) (bp _) ?_,rfl,q'⟩
  refine⟨by
   rw[ae,h1.length_eq];have:LL.length=its.length:=by rw[e2,ae]
   rw[this,<-hl,<-ae (f:=(·.1))];exact hz,((arrOf fv).map (·.2)).toList,en,?_,?_⟩
  ·rw[out];exact Cv uC
  ·rw[Array.toArray_toList];exact he
def HR:eX:=fun ds Q=>∃ps:List (Int×Str),ds=[.lst (ps.map wD)]/\ps.length<64/\(∀a∈ps,∀b∈ps,a.1=b.1->a.2=b.2)/\∀j5:List (Int×Str),j5.Perm ps->j5.Pairwise (fun x y=>x.1<=y.1)->Q (.ow (j5.map wD))
theorem Jg{K:PySem.W.Frag}{G:Hp}:∀{xs:List V} {ps:List (Int×Str)},bB K G xs (ps.map wD)->xs.length=ps.length/\∀q∈xs.zip ps,Rep K G q.1 (wD q.2)/\∃b,q.1=.ref b/\fH K G b [.int q.2.1,.str q.2.2]
 | [],[],_=>⟨rfl,fun q hq=>by cases hq⟩
 | v::xs,p::ps,r=>by
  rw[au] at r;simp only[bB] at r;obtain⟨h1,h2⟩:=Jg r.2;refine⟨by simp[h1],fun q hq=>?_⟩;rw[List.zip_cons_cons] at hq;rcases ah.mp hq with rfl | hq
  ·refine⟨r.1,?_⟩;have rr:=r.1;unfold wD at rr;simp only[Rep] at rr;obtain⟨a,ys,rfl,sq,ry⟩:=rr;obtain⟨y,z,rfl,r1,r2⟩:=BS ry;simp only[Rep] at r1 r2;subst r1 r2;exact⟨a,rfl,fH.of sq⟩
  ·exact h2 q hq
 | [],_::_,r=>by rw[au] at r;simp only[bB] at r
 | _::_,[],r=>by rw[List.map_nil] at r;simp only[bB] at r
theorem Pl(_:X.calm=true):pv X (.builtin "sorted") HR:=by
 refine⟨_,QY,fun G H vs ds Q P s rs h k=>?_⟩;obtain⟨ps,rfl,hl,hd,q⟩:=h;obtain⟨v,rfl,rv⟩:=kH rs;simp only[Rep] at rv;obtain⟨a,xs,rfl,h1,h2⟩:=rv;obtain⟨h3,hz⟩:=Jg h2;have e1:(xs.zip ps).map (·.1)=xs:=List.map_fst_zip (by omega);have e2:(xs.zip ps).map (·.2)=ps:=List.map_snd_zip (by omega);have el:(xs.zip ps).length=ps.length:=by rw[List.length_zip];omega
 have JQ:∀z∈xs.zip ps,z.2∈ps:=fun z hq=>by
  have:=aI (f:=(·.2)) hq;rw[e2] at this;exact this
 refine⟨a,xs.zip ps,rfl,by rw[e1];exact(s.gH h1).sq,fun z hq=>?_,by omega,fun y hy z hq=>hd _ (JQ y hy) _ (JQ z hq),fun j5 p1 p2=>?_⟩
 ·obtain⟨_,b,e,sq⟩:=hz z hq;exact⟨b,e,s.oh sq⟩
 ·refine tf s (ds:=(j5.map (·.2)).map wD) ?_ (q (j5.map (·.2)) ((p1.map _).trans (List.Perm.of_eq e2)) (by rw[List.pairwise_map];exact p2)) k;rw[br];exact Cu fun q hq=>(hz q (p1.subset hq)).1
end
end L2
namespace L2
open PySem PySem.Spec PyProof.Rows
noncomputable def px:D->Bool
 | .tup ds=>ds.all qA
 | d=>qA d
def Gg:Sl->Prop
 | .ov (.dc _)=>True
 | .ov (.ll _)=>True
 | .ov (.li _ _)=>True
 | .ov _=>False
 | _=>True
def pB(i:Nat)(te:TD):TD:=fun ρ Q=>Gg (gt ρ i)/\te (jL i ρ) fun r=>match r with
 | .ow ds=>ds.all px=true/\Q (.ow ds)
 | _=>False
theorem Pc{K:PySem.W.Frag}{G H0 H:Hp}{L:List Addr}{v:V}{d:D}(hs:bL G H)(hH:bL H0 H)(hT:∀q∈L,H0 q≠none/\∀xs,¬Rd H0 q (.tup xs))(hf:px d=true)(r:Rep K G v d):Rep K (jX G L) v d:=by
 cases d with
 | tup ds=>
  simp only[Rep] at r ⊢;obtain⟨a,xs,rfl,h1,h2⟩:=r;exact⟨a,xs,rfl,Pe hs hH (fun q hq=>(hT q hq).1) (fun q hq=>(hT q hq).2) h1,IV hf h2⟩
 | _=>exact CU hf r
theorem IT{K:PySem.W.Frag}{G H0 H:Hp}{L:List Addr}(hs:bL G H)(hH:bL H0 H)(hT:∀q∈L,H0 q≠none/\∀xs,¬Rd H0 q (.tup xs)):∀{vs:List V} {ds:List D},ds.all px=true->bB K G vs ds->bB K (jX G L) vs ds
 | [],[],_,_=>bB.nil
 | v::vs,d::ds,h,r=>by
  simp only[bB] at r;rw[List.all_cons,Bool.and_eq_true] at h;exact bB.cons (Pc hs hH hT h.1 r.1) (IT hs hH hT h.2 r.2)
 | [],_::_,_,r=>by simp only[bB] at r
 | _::_,[],_,r=>by simp only[bB] at r
section
variable {X:Cx} {pos:Pos} {e i':Expr} {te ti:TD}
theorem rF(i:Nat)(h:PD X e te):PD X e (pB i te):=by
 obtain⟨tt,p,q⟩:=h;refine⟨tt,p,fun ρ σ G0 H0 G H Q P E h k=>?_⟩;obtain⟨L,hL,E1,hT⟩:=E.k6 i;have U8:=hT fun o ho=>by
  have:=h.1;rw[ho] at this;cases o with
  | dc cI=>exact .inl ⟨cI,rfl⟩
  | ll cg=>exact .inr (.inl ⟨cg,rfl⟩)
  | li a cg=>exact .inr (.inr ⟨a,cg,rfl⟩)
  | dl=>exact this.elim
  | tl=>exact this.elim
  | ld=>exact this.elim
  | dt=>exact this.elim
  | tp=>exact this.elim
  | ob=>exact this.elim
  | dq=>exact this.elim
 refine q _ σ G0 H0 _ H _ _ E1 h.2 fun v H' r G' x rr hq=>?_
 have x2:=HX hL x;split at hq
 ·rename_i ds;obtain⟨p,xs,rfl,c1,c2,c3,c4⟩:=rr;refine k _ H' (.ow ds) (jX G' L) x2 ⟨p,xs,rfl,c1,?_,c3,IT x.s x.h U8 hq.1 c4⟩ hq.2;unfold jX;split
  ·rfl
  ·exact c2
 ·exact hq.elim
theorem b9.put{K:PySem.W.Frag}{G H:Hp}{q:Addr}{xs:List V}{es:List D}(hq:H q=some (.lst xs))(hr:bB K G xs es):∀{qs:List Addr} {cg:List (List D)} (j:Nat),b9 K G H qs cg->b9 K G H (qs.set j q) (cg.set j es)
 | [],[],j,h=>by simpa using h
 | p::qs,ds::cg,0,h=>by
  simp only[b9] at h;simp only[List.set_cons_zero,b9];exact⟨⟨xs,hq,hr⟩,h.2⟩
 | p::qs,ds::cg,j+1,h=>by
  simp only[b9] at h;simp only[List.set_cons_succ,b9];exact⟨h.1,b9.put hq hr j h.2⟩
 | [],_::_,_,h=>by simp only[b9] at h
 | _::_,[],_,h=>by simp only[b9] at h
theorem Iu{α:Type}{q:α}:∀{l:List α} (j:Nat),l.Nodup->q∉l->(l.set j q).Nodup
 | [],_,_,_=>by simp
 | a::l,0,h,hn=>by
  rw[aY] at h;rw[List.set_cons_zero,aY];exact⟨fun z=>hn (aA _ z),h.2⟩
 | a::l,j+1,h,hn=>by
  rw[aY] at h;rw[List.set_cons_succ,aY];refine⟨fun z=>?_,Iu j h.2 fun z=>hn (aA _ z)⟩;rcases List.mem_or_eq_of_mem_set z with z | z
  ·exact h.1 z
  ·exact hn (by rw[z];simp)
end
end L2
namespace L2
open PySem PySem.Spec PyProof.Rows
theorem rh{α:Type}{l:List α}{n:Nat}(h:l.length=n+1):∃a r,l=a::r/\r.length=n:=by
 cases l with
 | nil=>cases h
 | cons a r=>exact⟨a,r,rfl,Nat.succ.inj h⟩
theorem Lx{α:Type}{l:List α}(h:l.length=0):l=[]:=List.eq_nil_of_length_eq_zero h
theorem FY{α:Type}{l:List α}(h:l.length=1):∃a0,l=[a0]:=by
 obtain⟨a,r,e,h⟩:=rh h;exact⟨a,by rw[e,Lx h]⟩
theorem FX{α:Type}{l:List α}(h:l.length=2):∃a0 a1,l=[a0,a1]:=by
 obtain⟨a,r,e,h⟩:=rh h;obtain⟨b0,e2⟩:=FY h;exact⟨a,b0,by rw[e,e2]⟩
theorem FW{α:Type}{l:List α}(h:l.length=3):∃a0 a1 a2,l=[a0,a1,a2]:=by
 obtain⟨a,r,e,h⟩:=rh h;obtain⟨b0,b1,e2⟩:=FX h;exact⟨a,b0,b1,by rw[e,e2]⟩
theorem FV{α:Type}{l:List α}(h:l.length=4):∃a0 a1 a2 a3,l=[a0,a1,a2,a3]:=by
 obtain⟨a,r,e,h⟩:=rh h;obtain⟨b0,b1,b2,e2⟩:=FW h;exact⟨a,b0,b1,b2,by rw[e,e2]⟩
theorem FU{α:Type}{l:List α}(h:l.length=5):∃a0 a1 a2 a3 a4,l=[a0,a1,a2,a3,a4]:=by
 obtain⟨a,r,e,h⟩:=rh h;obtain⟨b0,b1,b2,b3,e2⟩:=FV h;exact⟨a,b0,b1,b2,b3,by rw[e,e2]⟩
theorem FT{α:Type}{l:List α}(h:l.length=6):∃a0 a1 a2 a3 a4 a5,l=[a0,a1,a2,a3,a4,a5]:=by
 obtain⟨a,r,e,h⟩:=rh h;obtain⟨b0,b1,b2,b3,b4,e2⟩:=FU h;exact⟨a,b0,b1,b2,b3,b4,by rw[e,e2]⟩
theorem FR{α:Type}{l:List α}(h:l.length=7):∃a0 a1 a2 a3 a4 a5 a6,l=[a0,a1,a2,a3,a4,a5,a6]:=by
 obtain⟨a,r,e,h⟩:=rh h;obtain⟨b0,b1,b2,b3,b4,b5,e2⟩:=FT h;exact⟨a,b0,b1,b2,b3,b4,b5,by rw[e,e2]⟩
theorem FQ{α:Type}{l:List α}(h:l.length=8):∃a0 a1 a2 a3 a4 a5 a6 a7,l=[a0,a1,a2,a3,a4,a5,a6,a7]:=by
 obtain⟨a,r,e,h⟩:=rh h;obtain⟨b0,b1,b2,b3,b4,b5,b6,e2⟩:=FR h;exact⟨a,b0,b1,b2,b3,b4,b5,b6,by rw[e,e2]⟩
theorem VL{α:Type}{l:List α}(h:l.length=9):∃a0 a1 a2 a3 a4 a5 a6 a7 a8,l=[a0,a1,a2,a3,a4,a5,a6,a7,a8]:=by
 obtain⟨a,r,e,h⟩:=rh h;obtain⟨b0,b1,b2,b3,b4,b5,b6,b7,e2⟩:=FQ h;exact⟨a,b0,b1,b2,b3,b4,b5,b6,b7,by rw[e,e2]⟩
end L2
namespace L2
open PySem PySem.Spec PyProof.Rows PySem.Builtin PySem.Builtin.Str
end L2
namespace L2
open PySem PySem.Spec PyProof.Rows
end L2
namespace L2
open PySem PySem.Spec PyProof.Rows
end L2
namespace L2.SO
open PySem PySem.Spec PyProof.Rows L2
end L2.SO
namespace L2.SO
open PySem PySem.Spec PyProof.Rows L2
end L2.SO
namespace L2.SO
open PySem PySem.Spec PyProof.Rows L2
end L2.SO
namespace L2.SO
open PySem PySem.Spec PyProof.Rows L2
end L2.SO
namespace L2.SO
open PySem PySem.Spec PyProof.Rows L2
end L2.SO
namespace L2.SO
open PySem PySem.Spec PyProof.Rows L2
end L2.SO
namespace L2.SO
open PySem PySem.Spec PyProof.Rows L2
end L2.SO
namespace L2.SO
open PySem PySem.Spec PyProof.Rows L2
end L2.SO
namespace L2.SO
open PySem PySem.Spec PyProof.Rows L2
end L2.SO
namespace L2
open PySem PySem.Spec PyProof.Rows
section
variable {X:Cx} {pos:Pos} {e:Expr} {te:TD} {ts:iI} {t:TA}
noncomputable def oD:Option Str->D
 | none=>.non
 | some x=>.str x
end
end L2
namespace L2
open PySem PySem.Spec PyProof.Rows
def qS(s0:Shared)(H:Hp)(b:Addr):Prop:=(∃o,s0.heap.get? b=some o)\/H b≠none
section
variable {X:Cx} {pins:List (Addr×Obj)} {σ:St} {H:Hp} {s:Shared}
theorem dF.some{P:Program}{w:World}{H:Hp}{h:Heap}{a:Addr}{o:HO}(x:dF P w H h a o):∃ob,h.get? a=some ob:=by
 cases o with
 | lst xs=>exact⟨_,x.2.choose_spec.choose_spec.2⟩
 | tup xs=>
  obtain⟨_,its,_,ob,e,_⟩:=x;exact⟨ob,e⟩
 | dK cI ep=>
  obtain⟨_,_,_,_,ob,_,e,_⟩:=x;exact⟨ob,e⟩
 | dT cI bs=>
  obtain⟨_,_,_,_,_,ob,_,_,e,_⟩:=x;exact⟨ob,e⟩
 | set S n=>
  obtain⟨ob,_,_,_,e,_⟩:=x;exact⟨ob,e⟩
 | ins C dx fs=>exact⟨_,x.2.2.2.1⟩
 | own y=>exact x
 | xd fs=>
  obtain⟨_,⟨ob,_,_,e,_⟩,_⟩:=x;exact⟨ob,e⟩
 | A7 lo hi=>
  obtain⟨_,_,_,e⟩:=x;exact⟨_,e⟩
 | jL ob u=>exact⟨ob,x.1⟩
 | tD ps=>exact⟨_,x⟩
 | met f y=>exact⟨_,x⟩
 | ext φ=>exact x.2.1
theorem Inv.there(I:Inv X pins σ H s)(hex:X.ex=[]){b:Addr}(h:qS X.cS H b):∃o,s.heap.get? b=some o:=by
 rcases h with⟨o,e⟩ | h
 ·exact I.base.there b o e (by rw[hex];simp)
 ·cases e:H b with
  | none=>exact absurd e h
  | some u=>exact(I.cB b u e).some
theorem Inv.gone(I:Inv X pins σ H s)(hex:X.ex=[])(gI:X.stack=X.env::X.outer)(hf:X.env.frame=some X.env.locals){B h':Heap}(st:B.StaysIn h')(pf:∀b o,qS X.cS H b->s.heap.get? b=some o->b∉ig X.stack->B.get? b=some o)(up:∀b∈ig X.outer,∀o,s.heap.get? b=some o->(∀vs,o.data≠.fields vs)->∃sl,h'.get? b=some { o with slots:=sl }) :
  Un (ig X.outer) [] X.oG H X.cS.heap h'/\iQ X.prog X.w H h'/\∀b o,qS X.cS H b->h'.get? b=some o->b∉ig X.outer->B.get? b=some o:=by
 have jK:ig X.stack=X.env.locals::ig X.outer:=by rw[gI];simp[ig,hf]
 have nL:∀b,qS X.cS H b->b≠X.env.locals:=fun b h z=>by
  subst z;rcases h with⟨o,e⟩ | h
  ·exact absurd (aq e) (Nat.not_lt.mpr I.ok.above)
  ·exact h I.free
 have out:∀b,qS X.cS H b->b∉ig X.outer->b∉ig X.stack:=fun b h n=>by
  rw[jK];simp only[ah,not_or];exact⟨nL b h,n⟩
 have same:∀b o,qS X.cS H b->b∉ig X.outer->s.heap.get? b=some o->h'.get? b=some o:=fun b o h n e=>st b o (pf b o h e (out b h n))
 have Vq:∀b,H b≠none->b∉ig X.outer:=fun b h m=>by
  obtain⟨_,o,ho,_⟩:=I.ok.gC.mem m;exact h (I.base.free b o ho (I.ok.qd b m) (by rw[hex];simp))
 refine⟨⟨fun b o e n hb _=>?_,fun b o e n hb _=>?_,fun b o e n _=>?_,fun b o e _=>?_,I.base.il,I.base.hV,I.base.ip⟩,fun a u e=>?_,fun b o h e n=>?_⟩
 ·exact same b o (.inl ⟨o,e⟩) hb (I.base.keep b o e n hb (by rw[hex];simp))
 ·obtain⟨sl,e1⟩:=I.base.slot b o e n hb (by rw[hex];simp);obtain⟨_,o',ku,hd⟩:=I.ok.gC.mem hb;rw[e] at ku;cases ku;obtain⟨A4,e2⟩:=up b hb _ e1 hd;exact⟨A4,e2⟩
 ·exact I.base.free b o e n (by rw[hex];simp)
 ·by_cases hb:b∈ig X.outer
  ·obtain⟨sl,e1⟩:=I.base.slot b o e (I.ok.qd b hb) hb (by rw[hex];simp);obtain⟨_,o',ku,hd⟩:=I.ok.gC.mem hb;rw[e] at ku;cases ku;obtain⟨A4,e2⟩:=up b hb _ e1 hd;exact⟨_,e2⟩
  ·obtain⟨o',e1⟩:=I.base.there b o e (by rw[hex];simp);exact⟨o',same b o' (.inl ⟨o,e⟩) hb e1⟩
 ·refine(I.cB a u e).jq (fun b v hb hv=>?_) (fun _ h=>h) fun _ _ h=>h
  have hn:H b≠none:=by
   rcases hb with rfl | hb
   ·rw[e];exact nofun
   ·rw[hb];exact nofun
  exact same b v (.inr hn) (Vq b hn) hv
 ·obtain⟨o',e1⟩:=I.there hex h;have e2:=same b o' h n e1;rw[e] at e2;cases e2;exact pf b o h e1 (out b h n)
end
end L2
namespace L2
open PySem PySem.Spec PyProof.Rows
end L2
namespace L2
open PySem PySem.Spec PyProof.Rows
theorem MS{P:Program}{w:World}{fs:List Addr}{H H':Hp}{h h1 h2 B:Heap}(u:Un fs [] H H' h h1)(fr:∀b∈fs,H b=none/\∃o,h.get? b=some o/\∀vs,o.data≠.fields vs)(st:B.StaysIn h2)
  (pf:∀b o,((∃o,h.get? b=some o)\/H' b≠none)->h1.get? b=some o->b∉fs->B.get? b=some o) (up:h1.UpToSlots h2) (cB:iQ P w H' h1):Un fs [] H H' h h2/\iQ P w H' h2:=by
 have same:∀b o,((∃o,h.get? b=some o)\/H' b≠none)->b∉fs->h1.get? b=some o->h2.get? b=some o:=fun b o hb n e=>st b o (pf b o hb e n)
 have slot:∀b∈fs,∀o,h.get? b=some o->∃sl,h2.get? b=some { o with slots:=sl }:=fun b hb o e=>by
  obtain⟨n,o',e',hd⟩:=fr b hb;rw[e] at e';cases e';obtain⟨sl,e1⟩:=u.slot b o e n hb (by simp);obtain⟨A4,e2⟩:=up b _ e1 hd;exact⟨A4,e2⟩
 have nf:∀b,H' b≠none->b∉fs:=fun b hb m=>by
  obtain⟨n,o,e,_⟩:=fr b m;exact hb (u.free b o e n (by simp))
 refine⟨⟨fun b o e n hb _=>same b o (.inl ⟨o,e⟩) hb (u.keep b o e n hb (by simp)),fun b o e n hb _=>slot b hb o e,fun b o e n _=>u.free b o e n (by simp),fun b o e _=>?_,u.il,u.hV,u.ip⟩,fun a v e=>?_⟩
 ·by_cases hb:b∈fs
  ·obtain⟨sl,e2⟩:=slot b hb o e;exact⟨_,e2⟩
  ·obtain⟨o',e1⟩:=u.there b o e (by simp);exact⟨o',same b o' (.inl ⟨o,e⟩) hb e1⟩
 ·refine(cB a v e).jq (fun b q hb hq=>?_) (fun _ z=>z) fun _ _ z=>z
  have hn:H' b≠none:=by
   rcases hb with rfl | hb
   ·rw[e];exact nofun
   ·rw[hb];exact nofun
  exact same b q (.inr hn) (nf b hn) hq
section
variable {X:Cx}
noncomputable abbrev Cx.iE(X:Cx)(a:Addr):Cx:={ X with A:=X.A.mark (some (.ref a)),calm:=false }
theorem Inv.iE{pins:List (Addr×Obj)}{σ:St}{H:Hp}{s:Shared}(I:Inv X pins σ H s)(a:Addr):Inv (X.iE a) pins σ H s:=
 ⟨⟨I.ok.mod,I.ok.kind,I.ok.glob,I.ok.blt,I.ok.above,I.ok.inj,I.ok.has,I.ok.cab,fun z=>(by cases z),I.ok.frames,I.ok.yH,I.ok.exf,I.ok.bs,I.ok.sC,I.ok.om,I.ok.oA,I.ok.gC,I.ok.qd⟩,I.os,I.bare,I.base,I.loc,I.cell,I.free,I.eU,I.pin,I.cB,I.len⟩
theorem Inv.uD{pins:List (Addr×Obj)}{σ:St}{H:Hp}{s:Shared}{a:Addr}(ok:X.Ok)(I:Inv (X.iE a) pins σ H s):Inv X pins σ H s:=
 ⟨ok,I.os,I.bare,I.base,I.loc,I.cell,I.free,I.eU,I.pin,I.cB,I.len⟩
end
end L2
namespace L2
open PySem PySem.Spec PyProof.Rows
end L2
namespace L2
open PySem PySem.Spec PyProof.Rows
end L2
namespace L2
open PySem PySem.Spec PyProof.Rows
end L2
namespace L2
open PySem PySem.Spec PyProof.Rows
end L2
namespace L2
open PySem PySem.Spec PyProof.Rows
end L2
namespace L2
open PySem PySem.Spec PyProof.Rows
end L2
namespace PySem
open Sem (wp)
end PySem
namespace L2
open PySem PySem.Spec PyProof.Rows
end L2
namespace Ts
open PySem PySem.W PyProof.Rows
section
variable {α:Type} {lt:α->α->Bool} {l:List α} {a b:α}
noncomputable def lW(lt:α->α->Bool)(l:List α)(a:α):Int:=((l.countP fun b=>lt b a:Nat):Int)
theorem GV{p q:α->Bool}(h:∀x∈l,p x=true->q x=true):l.countP p<=l.countP q:=by
 induction l with
 | nil=>exact aw _
 | cons a r ih=>
  have:=ih fun x hx=>h x (aA _ hx)
  rw[List.countP_cons,List.countP_cons];by_cases hp:p a=true
  ·rw[if_pos hp,if_pos (h a bj hp)];omega
  ·rw[if_neg hp];omega
theorem MR{p q:α->Bool}(h:∀x∈l,p x=true->q x=true)(ha:a∈l)(hp:p a=false)(hq:q a=true):l.countP p<l.countP q:=by
 induction l with
 | nil=>cases ha
 | cons c r ih=>
  have h1:=GV (l:=r) fun x hx=>h x (aA _ hx)
  rw[List.countP_cons,List.countP_cons];rcases ah.mp ha with z | ha
  ·subst z;rw[hp,hq];simp only[ay,aX,bh];omega
  ·have:=ih (fun x hx=>h x (aA _ hx)) ha;by_cases hc:p c=true
   ·rw[if_pos hc,if_pos (h c bj hc)];omega
   ·rw[if_neg hc];omega
structure Ord (lt:α->α->Bool):Prop where
 tr:∀a b c,lt a b=true->lt b c=true->lt a c=true
 ir:∀a,lt a a=false
 JB:∀a b,a≠b->lt a b=true\/lt b a=true
theorem GU(O:Ord lt)(ha:a∈l):lt a b=decide (lW lt l a<lW lt l b):=by
 unfold lW;cases h:lt a b with
 | true=>
  symm
  rw[decide_eq_true_iff];have:=MR (l:=l) (p:=fun c=>lt c a) (q:=fun c=>lt c b) (fun x _ hx=>O.tr _ _ _ hx h) ha (O.ir a) h;omega
 | false=>
  symm
  rw[decide_eq_false_iff_not];have:l.countP (fun c=>lt c b)<=l.countP (fun c=>lt c a):=by
   refine GV fun x _ hx=>?_
   by_cases e:a=b
   ·rw[e];exact hx
   ·rcases O.JB a b e with z | z
    ·rw[z] at h;cases h
    ·exact O.tr _ _ _ hx z
  omega
theorem yK(O:Ord lt)(ha:a∈l)(hb:b∈l)(h:lW lt l a<=lW lt l b):lt b a=false:=by
 rw[GU O hb,decide_eq_false_iff_not];omega
end
theorem Ct{a b:Str}(h:a.cps.toList=b.cps.toList):a=b:=by
 cases a;cases b;simp only[Str.mk.injEq];exact Array.toList_inj.mp h
section
variable {prog:Program} {w:World} {A:Around} {E:Value->Shared->Prop} {s:Shared}
theorem Ir{its:List Value}{z:Keyed}(hz:z∈pairsOf its):z.1∈its:=by
 unfold pairsOf at hz;have Eo:z∈its.zip its:=by simpa using hz
 exact(List.of_mem_zip Eo).1
end
end Ts
namespace L2
open PySem PySem.Spec PyProof.Rows
end L2
namespace Ts
open PySem PySem.W PyProof.Rows
end Ts
namespace Ts
open PySem PySem.W PyProof.Rows PySem.SeqAt
end Ts
namespace L2
open PySem PySem.Spec PyProof.Rows
section
variable {X:Cx}
theorem HQ{α:Type}{f:α->V}:∀{ps:List α} {its:List Value},Vals (ps.map f) its->∀z∈ps.zip its,RelV (f z.1) z.2
 | [],_,_,z,hz=>by cases hz
 | p::ps,_,r,z,hz=>by
  cases r with
  | cons a b=>
   rw[List.zip_cons_cons] at hz;rcases ah.mp hz with rfl | hz
   ·exact a
   ·exact HQ b z hz
theorem Jt{α β:Type}:∀{l:List α} {m:List β},l.length=m.length->∀b∈m,∃a,(a,b)∈l.zip m
 | [],[],_,b,hb=>by cases hb
 | a::l,c::m,h,b,hb=>by
  rcases ah.mp hb with rfl | hb
  ·exact⟨a,by simp⟩
  ·obtain⟨x,hx⟩:=Jt (l:=l) (m:=m) (by simpa using h) b hb;exact⟨x,by simp[hx]⟩
 | [],_::_,h,_,_=>by simp at h
 | _::_,[],h,_,_=>by simp at h
end
end L2
namespace L2
open PySem PySem.Spec PyProof.Rows
end L2
namespace L2
open PySem PySem.Spec PyProof.Rows
end L2
namespace L2
open PySem PySem.Spec PyProof.Rows
end L2
namespace L2
open PySem PySem.Spec PyProof.Rows
end L2
namespace L2
open PySem PySem.Spec PyProof.Rows
end L2
namespace L2
open PySem PySem.Spec PyProof.Rows
end L2
namespace L2
open PySem PySem.Spec PyProof.Rows
section
variable {X:Cx} {pins:List (Addr×Obj)} {σ:St} {H H0:Hp} {s s0:Shared}
theorem Inv.tell{a:Addr}{o:HO}(I:Inv X pins σ H s)(I0:Inv X pins σ H0 s0)(hn:H a=none)(h0:s0.heap.get? a=none)(new:dF X.prog X.w (upd H a o) s.heap a o):Inv X pins σ (upd H a o) s:=by
 have nl:a≠X.env.locals:=fun z=>by
  obtain⟨m,⟨oL,_,_,pT,_⟩,_⟩:=I0.loc;rw[z,pT] at h0;cases h0
 refine⟨I.ok,I.os,I.bare,⟨I.base.keep,I.base.slot,fun b ob e n hx=>?_,I.base.there,fun b xs e=>?_,fun b o' u e=>?_,fun b ps e=>?_⟩,I.loc,I.cell,by rw[cN (Ne.symm nl)];exact I.free,fun x c e=>?_,fun p hp=>?_,fun b u e=>?_,I.len⟩
 ·have:b≠a:=fun z=>by
   obtain⟨o',e1⟩:=I0.base.there b ob e hx;rw[z,h0] at e1;cases e1
  rw[cN this];exact I.base.free b ob e n hx
 ·have z:=I.base.il b xs e;rw[cN (gX z hn)];exact z
 ·have z:=I.base.hV b o' u e;rw[cN (gX z hn)];exact z
 ·obtain⟨more,z⟩:=I.base.ip b ps e;exact⟨more,by rw[cN (gX z hn)];exact z⟩
 ·have:c≠a:=fun z=>by
   obtain⟨v,oc,rZ,_⟩:=I0.cell x c e;rw[z,h0] at rZ;cases rZ
  rw[cN this];exact I.eU x c e
 ·obtain⟨e,n,ne,nf,d⟩:=I.pin p hp;have:p.1≠a:=fun z=>by
   have:=(I0.pin p hp).1;rw[z,h0] at this;cases this
  exact⟨e,by rw[cN this];exact n,ne,nf,d⟩
 ·by_cases hb:b=a
  ·subst hb;rw[gB] at e;cases e;exact new
  ·rw[cN hb] at e;exact(I.cB b u e).jq (fun c v _ q=>q) (fun c q=>by rw[cN (gX q hn)];exact q) fun c xs q=>by rw[cN (gX q hn)];exact q
theorem Inv.zz{m:Str->Option Value}{v:Option Value}{h':Heap}{x:Str}{i t':Nat}(I:Inv X pins σ H s)(hN:X.N.Nodup)(hi:X.N[i]?=some x)(hm:∀(j:Nat) (y:Str) (v:V),X.N[j]?=some y->σ[j]?=some (some v)->l8 X.env.scope y->∃u,RelV v u/\Look X.env s.heap m y u)
  (hn:h'.Ns X.env.locals (fun y=>if y=x then v else m y)) (hs:Heap.SameBut X.env.locals s.heap h'):Inv X pins (σ.set i none) H { s with heap:=h',toks:=t' }:=by
 obtain⟨m0,⟨oL,es,ep,pT,tO⟩,_⟩:=id I.loc;have qh:=I.qh;refine⟨I.ok,I.os,I.bare,⟨fun b o e n hb hx=>?_,fun b o e n hb hx=>?_,I.base.free,fun b o e hx=>?_,I.base.il,I.base.hV,I.base.ip⟩,⟨_,hn,fun j y v' e1 e2 e3=>?_⟩,fun y c e=>?_,I.free,I.eU,fun p hp=>?_,fun b ob e=>?_,by simpa using I.len⟩
 ·exact(hs.2 b (aD (aF (aq e) I.ok.above))).trans (I.base.keep b o e n hb hx)
 ·obtain⟨sl,e1⟩:=I.base.slot b o e n hb hx;exact⟨sl,(hs.2 b (aD (aF (aq e) I.ok.above))).trans e1⟩
 ·obtain⟨o',e1⟩:=I.base.there b o e hx;exact⟨o',(hs.2 b (aD (aF (aq e) I.ok.above))).trans e1⟩
 ·have hj:j≠i:=fun z=>by
   subst z;rw[List.getElem?_set] at e2;split at e2
   ·split at e2<;>cases e2
   ·exact absurd rfl (by assumption)
  rw[List.getElem?_set_ne (Ne.symm hj)] at e2;obtain⟨u',r',q⟩:=hm j y v' e1 e2 e3;refine⟨u',r',?_⟩;rcases q with⟨k,e⟩ | ⟨k,c,e,z⟩
  ·refine .inl ⟨k,?_⟩;have:y≠x:=fun e=>hj (CT hN e1 (e▸hi))
   simp[this,e]
  ·exact .inr ⟨k,c,e,z.sameBut hs (qh y c e)⟩
 ·obtain⟨w',z⟩:=I.cell y c e;exact⟨w',z.sameBut hs (qh y c e)⟩
 ·obtain⟨e,n,ne,nf,d⟩:=I.pin p hp;exact⟨(hs.2 p.1 ne).trans e,n,ne,nf,d⟩
 ·refine(I.cB b ob e).jq (fun c w' hc q=>(hs.2 c ?_).trans q) (fun _ q=>q) fun _ _ q=>q
  rintro rfl;rcases hc with rfl | hc
  ·rw[I.free] at e;cases e
  ·rw[I.free] at hc;cases hc
end
end L2
namespace PySem.W
open PySem PySem.Spec PySem.Calls PyProof.Rows Builtin Builtin.ObjectAttr Builtin.Getset_descriptor
section
variable {prog:Program} {w:World} {A:Around} {E:Value->Shared->Prop} {s:Shared} {K:Frag} {x C D:Addr} {name:Str}
def jQ(h:Heap)(x C:Addr):Prop:=∃o,h.get? x=some o/\o.cls=.ref C
theorem jQ.type{M:Model}{h:Heap}(I:jQ h x C):Looks M h (typeOf (.ref x)) (.ref C):=by
 obtain⟨o,e,c⟩:=I;exact c▸(Looks.ld e).andThen .now
theorem NW{M:Model}{h:Heap}{g a:Value}(X:K.In h)(ha:findIn K (.ref C) name=some (some a))(hg:specialIn K a "__get__"=some (some g))(ht:takesIn K a=some true):Looks M h (find (.ref x) (.ref C) name) (.bind g a):=by
 have L1:=looks_findIn (M:=M) X ha;have L2:Looks M h (getOf (some a)) (some g):=looks_specialIn X hg;have L3:=looks_takesIn (M:=M) X ht;exact L1.andThen (L2.andThen ((show Looks M h (dataDescriptor? (some a) (some g)) (some (g,a)) from L3.andThen .now).andThen (Looks.tag .now)))
theorem Q7{tp:Value}{R:Result->Shared->Prop}(X:K.In s.heap)(I:jQ s.heap x C)(hm:mroIn K C (.type "object")=some true)
  (h:R (.ok (.ret (.ref C))) s):codeAny (model prog w) A (.call (.builtin "getset_descriptor.__get__") ⟨[.builtin "object.__class__",.ref x,tp],[]⟩) R s:=by
 obtain⟨hh,g,dr,t,os⟩:=s;have L0:=I.type (M:=model prog w);have L1:=looks_mroIn (M:=model prog w) X hm;refine codeAny_call_builtin KF.slot_gs.plain KF.entry_gs (KF.slot_gs.check _ _ _ _ _ _ _ _ KF.type_class (KF.args_gs _ _ _) ?_);unfold Builtin.«getset_descriptor.__get__» descrGet;rw[dga_obj];refine aa (ag ?_);unfold descrGetter descrCheckInstance descrNameAndClass isInstance;simp only[KF.owner_class];repeat lk
 refine⟨Code.quiet_builtin _ (by decide +kernel),codeAny_builtin KF.entry_class ?_⟩;unfold Builtin.«object.__class__» shownTypeOf;repeat lk
 exact h
theorem HP{M:Model}{tI:Value}{Q:Unit->Shared->Prop}(X:K.In s.heap)(I:jQ s.heap x D)(hb:mroIn K D (.type "BaseException")=some true)(hq:Q () s):wpAny M A (checkBuiltinCall "BaseException.__getattribute__" ⟨[.ref x,tI],[]⟩) Q E s:=by
 obtain⟨hh,g,d,t,os⟩:=s;have hk:builtinKind "BaseException.__getattribute__"=some .slot:=by decide +kernel
 have uR:splitId "BaseException.__getattribute__"=some ("BaseException","__getattribute__"):=by decide +kernel
 have ha:=F.args_bexc_ga (.ref x) tI;have L0:=I.type (M:=M);have L1:=looks_mroIn (M:=M) X hb;simp only[checkBuiltinCall,hk,uR];refine aa ?_;unfold isInstance;refine aa (L0.at (L1.at ?_));repeat(any_goals (first | assumption | wp_step))
theorem Pb{g a:Value}{tk:Tok}{R:Fin->Shared->Prop}(X:K.In s.heap)(I:jQ s.heap x D)(ha:findIn K (.ref D) name=some (some a))(hg:specialIn K a "__get__"=some (some g))(ht:takesIn K a=some true)
  (h:wpAny (model prog w) A (call g [a,.ref x,.ref D]) (fun v s'=>R (.done (.ret v)) s') E s) :
  wpAny (model prog w) A (Builtin.«object.__getattribute__» ⟨[.ref x,.str name tk],[]⟩) R E s:=by
 obtain⟨hh,gg,d,t,os⟩:=s;have L0:=I.type (M:=model prog w);have L1:=NW (M:=model prog w) (x:=x) X ha hg ht;unfold Builtin.«object.__getattribute__»;refine aa (ag (aa (ag (aa (L0.at (aa (L1.at ?_)))))));show wpAny _ _ (holding [a] (call g [a,.ref x,.ref D]) >>= ret) _ _ _;exact aa (aQ (bc h (fun v s' z=>ag z) fun _ _ z=>z))
theorem Pa{Q:Option Value->Shared->Prop}{g a:Value}(X:K.In s.heap)(I:jQ s.heap x D)(E7:findIn K (.ref D) "__getattribute__"=some (some (.builtin "BaseException.__getattribute__")))(E5:findIn K (.ref D) "__getattr__"=some none)
  (hb:mroIn K D (.type "BaseException")=some true) (ha:findIn K (.ref D) name=some (some a)) (hg:specialIn K a "__get__"=some (some g)) (ht:takesIn K a=some true)
  (h:wpAny (model prog w) A.in1 (call g [a,.ref x,.ref D]) (fun v s'=>wpAny (model prog w) A (handedOut v) (fun v wc=>Q (some v) wc) (fun _ _=>False) s') (fun _ _=>False) { s with toks:=s.toks+1 }) :
  wpAny (model prog w) A (getAttr? (.ref x) name) Q E s:=by
 obtain⟨hh,gg,d,t,os⟩:=s;have L0:=I.type (M:=model prog w);have L1:=looks_findIn (M:=model prog w) X E7;have L2:=looks_findIn (M:=model prog w) X E5;have f3:=F.excAttr_ValueError.ga.bind (.ref x);unfold getAttr? getAttrBy? getAttrBy;refine aa (wpAny_mkText (aa (wpAny_attempt (aQ (aa (L0.at (aa (L1.at ?_))))))));show wpAny _ _ (getAttrByItsOwn _ _ _ _ _ _) _ _ _;unfold getAttrByItsOwn;refine aa (L2.at (aa (wpAny_attempt (aQ ?_))));show wpAny _ _ (boundAndCalled _ _ _) _ _ _;unfold boundAndCalled;rw[f3];refine aa (ag (wpAny_call (codeAny_call_builtin F.excAttr_ValueError.ga.plain F.entry_bexc_ga (HP (s:=⟨hh,gg,d,t+1,os⟩) X I hb (Pb (s:=⟨hh,gg,d,t+1,os⟩) X I ha hg ht (bc h (fun v s' z=>?_) fun _ _ z=>z.elim))))));exact bc z (fun v wc hv=>ag hv) (fun _ _ z=>z.elim)
structure FN (K:Frag) (D:Addr):Prop where
 hg:findIn K (.ref D) "__getattribute__"=some (some (.builtin "BaseException.__getattribute__"))
 hh:findIn K (.ref D) "__getattr__"=some none
 hd:hasDictIn K D=true
 ha:findIn K (.ref D) "__class__"=some (some (.builtin "object.__class__"))
 hn:specialIn K (.builtin "object.__class__") "__get__"=some (some (.builtin "getset_descriptor.__get__"))
 ht:takesIn K (.builtin "object.__class__")=some true
 hm:mroIn K D (.type "object")=some true
 hb:mroIn K D (.type "BaseException")=some true
theorem O9{Q:Option Value->Shared->Prop}(B:FN K D)(X:K.In s.heap)(I:jQ s.heap x D)(h:Q (some (.ref D)) { s with toks:=s.toks+1 }):wpAny (model prog w) A (getAttr? (.ref x) "__class__") Q E s:=
 Pa X I B.hg B.hh B.hb B.ha B.hn B.ht (wpAny_call (Q7 (s:={ s with toks:=s.toks+1 }) X I B.hm (handed_on rfl h)))
theorem nJ(B:FN K D):KitX K (.ref x) (.ref D) (fun h=>jQ h x D) where
 ty:=fun _ _ _ I=>I.type
 it:=fun _ _ X _=>by
  obtain⟨Vx,pX,_⟩:=any_some B.hd;unfold clsIn at pX;split at pX
  ·rename_i c' d' Vy DV ho;intro A' Q' E' s' k q;unfold isType loadHead;exact aa (wpAny_loadPart (k _ _ (X _ _ ho)) (ag q))
  ·cases pX
 ne:=fun h tp dd its n sl X Ur=>by
  obtain⟨Vx,pX,_⟩:=any_some B.hd;refine Bool.eq_false_iff.mpr fun q=>?_
  have e:D=tp:=Value.ref.inj (beq_iff_eq.mp q);subst e;unfold clsIn at pX;split at pX
  ·rename_i c' d' Vy DV ho;have:=X _ _ ho;rw[Ur] at this;cases this
  ·cases pX
 ca:=fun X I k=>O9 B X I k
end
end PySem.W
namespace L2
open PySem PySem.Spec PyProof.Rows
noncomputable abbrev me:=PySem.W.FN
section
variable {X:Cx} {pos:Pos} {e:Expr} {te:TD} {D:Addr} {b:Bool}
theorem Inv.zC{pins:List (Addr×Obj)}{σ:St}{H:Hp}{s:Shared}{v:V}{cn:Str}{fs:List (Str×L2.D)}(I:Inv X pins σ H s)(lI:PySem.W.nsIn X.K mainGlobals cn=some (some (.ref D)))(r:Rep X.K H v (.exc cn fs)):∃a,v=.ref a/\PySem.W.jQ s.heap a D:=by
 simp only[Rep] at r;obtain⟨a,φ,C,dd,gs,rfl,e,hc,Em,_⟩:=r;rw[lI] at hc;cases hc;obtain⟨o,h1,h2,_⟩:=Em _ (I.cB a _ e).1;exact⟨a,rfl,o,h1,h2⟩
theorem Iq{c:V}{uc:Value}{cn:Str}(hK:me X.K D)(lI:PySem.W.nsIn X.K mainGlobals cn=some (some (.ref D)))(hu:∀u,RelV c u->u=uc)(hb:PySem.W.kitOne X.K (.ref D) uc=some b) :
  c8 X (.builtin "isinstance") (fun xs H Q=>∃x fs,xs=[x,c]/\Rep X.K H x (.exc cn fs)/\Q (.bl b) H):=by
 intro pins s σ H xs us Q I r h;obtain⟨x,fs,rfl,rx,q⟩:=h;obtain⟨u,u2,rfl,ru,rc⟩:=vv r;obtain⟨a,rfl,ex⟩:=I.zC lI rx;cases (show u=Value.ref a from ru);rw[hu _ rc];exact PySem.W.kia_one (PySem.W.nJ hK) I.i4 ex hb (by intro z;cases z) fun tk=>⟨.bl b,H,I.tok tk,rfl,q⟩
theorem QX{cs:List Addr}{cn:Str}(hK:me X.K D)(lI:PySem.W.nsIn X.K mainGlobals cn=some (some (.ref D)))(hb:PySem.W.kitAny X.K (.ref D) (cs.map Value.ref)=some b) :
  c8 X (.builtin "isinstance") (fun xs H Q=>∃x p fs,xs=[x,.ref p]/\fH X.K H p (cs.map V.ref)/\Rep X.K H x (.exc cn fs)/\Q (.bl b) H):=by
 intro pins s σ H xs us Q I r h;obtain⟨x,p,fs,rfl,hp,rx,q⟩:=h;obtain⟨u,u2,rfl,ru,rc⟩:=vv r;obtain⟨a,rfl,ex⟩:=I.zC lI rx;cases (show u=Value.ref a from ru);cases (show u2=Value.ref p from rc);obtain⟨its,rv,ht,hz⟩:=I.tuple hp;have ei:its=cs.map Value.ref:=by
  clear ht hb hp hz;induction cs generalizing its with
  | nil=>cases rv;rfl
  | cons c r ih=>
   cases rv with
   | cons h1 h2=>rw[au,<-ih _ h2];cases (show _=Value.ref c from h1);rfl
 subst ei;obtain⟨⟨cls,dd,data,sl⟩,g1,g2,n,g3⟩:=ht;simp only at g2 g3;subst g2 g3;exact PySem.W.kia_tup (PySem.W.nJ hK) I.i4 ex g1 hb (by intro z;cases z) fun tk=>⟨.bl b,H,I.tok tk,rfl,q⟩
def sQ(cn:Str)(b:Bool)(te:TD):TD:=fun ρ Q=>te ρ fun r=>match r.val with
 | .exc c _=>c=cn/\Q (.fz (.bl b))
 | _=>False
theorem mJ{C:Addr}{cn CN:Str}{p p':Pos}(he:PD X e te)(hK:me X.K D)(lI:PySem.W.nsIn X.K mainGlobals cn=some (some (.ref D)))(hm:X.mg "isinstance"=none)(jJ:X.mg CN=some (.ref C))(hb:PySem.W.kitOne X.K (.ref D) (.ref C)=some b)
  (hg:Gl X "isinstance":=by rfl) (sk:Gl X CN:=by rfl) (hd:(CN==("__debug__":Str))=false:=by decide) (gI:starEach [e,Expr.Name CN p'] X.env=(false,eval e X.env)::starEach [Expr.Name CN p'] X.env:=by rfl) (pS:starEach [Expr.Name CN p'] X.env=(false,eval (.Name CN p') X.env)::starEach [] X.env:=by rfl)
  (fR:(backTo pos (starEach [Expr.Name CN p'] X.env)).any (·.1)=false:=by rfl):PD X (.Call (.Name "isinstance" p) [e,.Name CN p'] [] pos) (sQ cn b te):=by
 obtain⟨t,pp,q⟩:=he;refine⟨_,vQ (Iq (c:=.ref C) (uc:=.ref C) (b:=b) hK lI (fun u h=>h) hb) hg hm boot_isinstance (mK pp (mK (CF (v:=.ref C) sk jJ rfl hd) pE pS) gI) (by decide) (by decide) gI fR,fun ρ σ G0 H0 G H Q P E h k=>q ρ σ G0 H0 G H _ _ E h fun v H' r G' x rr hq=>?_⟩;obtain⟨G2,x2,rv,_⟩:=rr.freeze x;split at hq
 ·rename_i c fs e1;obtain⟨rfl,hq⟩:=hq;rw[e1] at rv;exact⟨v,fs,rfl,rv.mono x2.s,k _ _ _ G2 x2 (fj (jy _ _ _)) hq⟩
 ·exact hq.elim
theorem Am{T:String}{cn TN:Str}{p p':Pos}(he:PD X e te)(hK:me X.K D)(lI:PySem.W.nsIn X.K mainGlobals cn=some (some (.ref D)))(hm:X.mg "isinstance"=none)(jJ:X.mg TN=none)(hv:bootBuiltins TN=some (.type T))(hb:PySem.W.kitOne X.K (.ref D) (.type T)=some b)
  (hg:Gl X "isinstance":=by rfl) (sk:Gl X TN:=by rfl) (hn:TN≠"__name__":=by decide) (hd:(TN==("__debug__":Str))=false:=by decide) (gI:starEach [e,Expr.Name TN p'] X.env=(false,eval e X.env)::starEach [Expr.Name TN p'] X.env:=by rfl) (pS:starEach [Expr.Name TN p'] X.env=(false,eval (.Name TN p') X.env)::starEach [] X.env:=by rfl)
  (fR:(backTo pos (starEach [Expr.Name TN p'] X.env)).any (·.1)=false:=by rfl):PD X (.Call (.Name "isinstance" p) [e,.Name TN p'] [] pos) (sQ cn b te):=by
 obtain⟨t,pp,q⟩:=he;refine⟨_,vQ (Iq (c:=.ty T) (uc:=.type T) (b:=b) hK lI (fun u h=>h) hb) hg hm boot_isinstance (mK pp (mK (Oq (v:=.ty T) sk jJ hv rfl hn hd) pE pS) gI) (by decide) (by decide) gI fR,fun ρ σ G0 H0 G H Q P E h k=>q ρ σ G0 H0 G H _ _ E h fun v H' r G' x rr hq=>?_⟩;obtain⟨G2,x2,rv,_⟩:=rr.freeze x;split at hq
 ·rename_i c fs e1;obtain⟨rfl,hq⟩:=hq;rw[e1] at rv;exact⟨v,fs,rfl,rv.mono x2.s,k _ _ _ G2 x2 (fj (jy _ _ _)) hq⟩
 ·exact hq.elim
theorem HN:∀(cs:List (Str×Addr×Pos)),(∀c∈cs,X.mg c.1=some (.ref c.2.1)/\Gl X c.1/\(c.1==("__debug__":Str))=false)->(∀es,(∃l,es=(cs.drop l).map fun c=>Expr.Name c.1 c.2.2)->starEach es X.env=match es with | []=>starEach [] X.env | e::r=>(false,eval e X.env)::starEach r X.env)->
  ∃t,PA X (cs.map fun c=>Expr.Name c.1 c.2.2) t/\∀(σ:St) (H:Hp) (Q:List V->Hp->Prop),Q (cs.map fun c=>V.ref c.2.1) H->t σ H Q
 | [],_,_=>⟨_,pE,fun _ _ _ q=>q⟩
 | c::cs,h,hs=>by
  obtain⟨t,p,q⟩:=HN cs (fun d hd=>h d (aA _ hd)) (fun es bV=>by obtain⟨l,e⟩:=bV;exact hs es ⟨l+1,e⟩);obtain⟨h1,h2,h3⟩:=h c bj;exact⟨_,mK (CF (v:=.ref c.2.1) h2 h1 rfl h3) p (hs _ ⟨0,rfl⟩),fun σ H Q z=>q σ H _ z⟩
theorem sX{cs:List (Str×Addr×Pos)}{cn:Str}{p p3:Pos}{x1:Nat}(he:PD X e te)(hK:me X.K D)(lI:PySem.W.nsIn X.K mainGlobals cn=some (some (.ref D)))(hm:X.mg "isinstance"=none)(hc:∀c∈cs,X.mg c.1=some (.ref c.2.1)/\Gl X c.1/\(c.1==("__debug__":Str))=false)
  (hb:PySem.W.kitAny X.K (.ref D) ((cs.map fun c=>c.2.1).map Value.ref)=some b) (hl:cs.length<=sizeLine) (hs:∀es,(∃l,es=(cs.drop l).map fun c=>Expr.Name c.1 c.2.2)->starEach es X.env=match es with | []=>starEach [] X.env | e::r=>(false,eval e X.env)::starEach r X.env)
  (hg:Gl X "isinstance":=by rfl) (gI:starEach [e,Expr.Tuple (cs.map fun c=>Expr.Name c.1 c.2.2) x1 p3] X.env=(false,eval e X.env)::starEach [Expr.Tuple (cs.map fun c=>Expr.Name c.1 c.2.2) x1 p3] X.env:=by rfl)
  (pS:starEach [Expr.Tuple (cs.map fun c=>Expr.Name c.1 c.2.2) x1 p3] X.env=(false,eval (Expr.Tuple (cs.map fun c=>Expr.Name c.1 c.2.2) x1 p3) X.env)::starEach [] X.env:=by rfl)
  (fR:(backTo pos (starEach [Expr.Tuple (cs.map fun c=>Expr.Name c.1 c.2.2) x1 p3] X.env)).any (·.1)=false:=by rfl):PD X (.Call (.Name "isinstance" p) [e,.Tuple (cs.map fun c=>Expr.Name c.1 c.2.2) x1 p3] [] pos) (sQ cn b te):=by
 obtain⟨t,pp,q⟩:=he;obtain⟨tg,pg,qg⟩:=HN (X:=X) cs hc hs;refine⟨_,vQ (QX (cs:=cs.map fun c=>c.2.1) (b:=b) hK lI hb) hg hm boot_isinstance (mK pp (mK (Gu pg) pE pS) gI) (by decide) (by decide) gI fR,fun ρ σ G0 H0 G H Q P E h k=>q ρ σ G0 H0 G H _ _ E h fun v H' r G' x rr hq=>?_⟩;obtain⟨G2,x2,rv,_⟩:=rr.freeze x;split at hq
 ·rename_i c fs e1;obtain⟨rfl,hq⟩:=hq;rw[e1] at rv;refine qg _ _ _ ⟨by simpa using hl,fun p hp=>?_⟩;have x3:=x2.trans (Ext.own (o:=.tup (cs.map fun c=>V.ref c.2.1)) x2.s hp);refine⟨v,p,fs,rfl,?_,rv.mono x3.s,k _ _ _ G2 x3 (fj (jy _ _ _)) hq⟩;rw[br];exact fH.of gB
 ·exact hq.elim
end
end L2
namespace L2
open PySem PySem.Spec PyProof.Rows
end L2
namespace L2
open PySem PySem.Spec PyProof.Rows
end L2
namespace L2
open PySem PySem.Spec PyProof.Rows
structure M1 (X:Cx) (o:Expr) (m:Str) (apos:Pos) (e:Expr) (eQ:Pos):Prop where
 base:attributeBase o m X.env (eval o X.env)=eval o X.env
 tV:((backTo eQ (starEach [e] X.env)).all (fun x=>!x.1)&&(backToKw eQ (keywordEach [] X.env)).all (fun x=>x.1.isSome)
  && decide (([e]:List Expr).length+([]:List Keyword).length+(if ([]:List Keyword).isEmpty then 0 else 1)<30))=true
 line:(apos.endLine==eQ.line)=true
 trees:backTo eQ (starEach [e] X.env)=[(false,eval e X.env)]
end L2
namespace L2
open PySem PySem.Spec PyProof.Rows
end L2
namespace L2
open PySem PySem.Spec PyProof.Rows
end L2
namespace L2
open PySem PySem.Spec PyProof.Rows
theorem Pk(o:Obj)(f:Array Value->Array Value):(o.mapFields f).dict=o.dict:=by
 obtain⟨c,d,da,s⟩:=o;cases da<;>rfl
def VD(h B:Heap)(e:Addr)(cls:Value)(dd:Option Addr)(fl:Value):Prop:=
 ∃oe vs T oT ts,h.get? e=some oe/\(oe.cls=cls/\oe.dict=dd)/\oe.data=.fields vs/\vs[1]?=some (.ref T)/\(B.get? T=none/\T≠e)/\h.get? T=some oT/\oT.data=.fields ts/\ts[3]?=some fl
structure ph (B:Heap) (l:List Env) (e:Addr) (cls:Value) (dd:Option Addr) (fl:Value) (h:Heap):Prop where
 st:B.StaysIn h
 new:B.get? e=none
 ff:h.FunFrames B l
 tr:VD h B e cls dd fl
theorem ph.there{B h:Heap}{l:List Env}{e:Addr}{cls fl:Value}{dd:Option Addr}(x:ph B l e cls dd fl h):∃o vs,h.get? e=some o/\o.cls=cls/\o.dict=dd/\o.data=.fields vs:=
 let⟨oe,vs,_,_,_,h1,⟨h2,h3⟩,h4,_⟩:=x.tr;⟨oe,vs,h1,h2,h3,h4⟩
section
variable {M:Model} {A:Around} {E:Value->Shared->Prop} {s:Shared} {B:Heap} {env:Env} {outer l:List Env} {L e T:Addr} {oe oT:Obj} {vs ts:Array Value} {cls fl head x:Value} {dd:Option Addr} {Q:Unit->Shared->Prop}
theorem Cs{h:Heap}(ho:h.get? e=some oe)(hd:oe.data=.fields vs)(k:Nat)(x:Value) :
  (h.update e (Obj.mapFields (·.setIfInBounds k x))).get? e=some (oe.mapFields (·.setIfInBounds k x))/\(∀b,b≠e->(h.update e (Obj.mapFields (·.setIfInBounds k x))).get? b=h.get? b)/\h.UpToSlots (h.update e (Obj.mapFields (·.setIfInBounds k x))):=by
 have o1:∀b,b≠e->(h.update e (Obj.mapFields (·.setIfInBounds k x))).get? b=h.get? b:=fun b hb=>aU _ _ (Ne.symm hb)
 refine⟨Heap.get?_update_self _ ho (Obj.isFreed_of_fields (Obj.data_mapFields hd _)),o1,fun b o q hn=>⟨o.slots,?_⟩⟩;rw[o1 b fun z=>by rw[z,ho] at q;cases q;exact hn vs hd];exact q
theorem B1{h h':Heap}(u:h.UpToSlots h')(f:h.FunFrames B l):h'.FunFrames B l:=f.of_keeps fun b o q hn=>let⟨_,z⟩:=u b o q hn;⟨_,z,rfl⟩
theorem GS{su:Bool}(jK:A.frames=some (env::outer))(ff:s.heap.FunFrames B (env::outer))(hf:env.frame=some L)(he:s.heap.get? e=some oe)(st:B.StaysIn s.heap)(new:B.get? e=none)(hd:oe.data=.fields vs)(h1:1<vs.size)
  (k:∀h',ph B (env::outer) e oe.cls oe.dict (rawInt L) h'->s.heap.UpToSlots h'->Q () { s with heap:=h' }) :
  wpAny M A (do let a <-frameOf env;let pl <-entryPlaceOf L su;let b <-EntryCells.newEntry head a .none (rawInt L) .none pl;setField (.ref e) 1 b) Q E s:=by
 have nf:∀b∈(env::outer).filterMap (·.frame),b≠e:=fun b hb z=>by
  obtain⟨_,o,ho,hn⟩:=ff.mem hb;rw[z,he] at ho;cases ho;exact hn vs hd
 refine aa (wpAny_frameOf_fun jK ff hf fun g so=>aa (wpAny_entryPlaceOf fun pl fR=>?_));unfold EntryCells.newEntry newFields;refine aa (wpAny_newObj_type ?_ (fR.sizeOk5 _ _ _ _ _));generalize EG:({ cls:=.type "traceback",dict:=none,data:=.fields _ }:Obj)=ob;obtain⟨us,JX,Um⟩:∃us,ob.data=.fields us/\us[3]?=some (rawInt L):=by
  rw[<-EG];refine⟨_,rfl,?_⟩;first | (simp;done) | (rcases fR with rfl | ⟨_,_,_,_,_,_,_,rfl⟩<;>simp)
 have g1:g.get? e=some oe:=(so.2.1 e fun z=>nf e z rfl).trans he;have u1:s.heap.UpToSlots g:=fun b o q _=>so.2.2 b o q
 have u2:g.UpToSlots (g.push ob):=.of_keeps fun b o q=>af ob q
 have g2:=af ob g1;have gT:(g.push ob).get? g.objs.size=some ob:=ax g (Obj.isFreed_of_fields JX);have Te:g.objs.size≠e:=Nat.ne_of_gt (aq g1);have s1:B.StaysIn g:=fun b o q=>(so.2.1 b fun z=>by rw[(ff.mem z).1] at q;cases q).trans (st b o q)
 obtain⟨r1,r2,r3⟩:=Cs g2 hd 1 (.ref g.objs.size);refine wpAny_setField g2 hd h1 (k _ ⟨fun b o q=>?_,new,B1 ((u1.trans u2).trans r3) ff,_,_,g.objs.size,_,_,r1,⟨Obj.cls_mapFields _ _,Pk _ _⟩,Obj.data_mapFields hd _,by simp[h1],⟨s1.fresh,Te⟩,(r2 _ Te).trans gT,JX,Um⟩ ((u1.trans u2).trans r3));rw[r2 b fun z=>by rw[z,new] at q;cases q];exact af ob (s1 b o q)
theorem QW(jK:A.frames=some (env::outer))(ff:s.heap.FunFrames B (env::outer))(hf:env.frame=some L)(he:s.heap.get? e=some oe)(st:B.StaysIn s.heap)(new:B.get? e=none)(hd:oe.data=.fields vs)(h1:vs[1]?=some .none)
  (k:∀h',ph B (env::outer) e oe.cls oe.dict (rawInt L) h'->s.heap.UpToSlots h'->Q () { s with heap:=h' }):wpAny M A (noteFrame (.ref e) env) Q E s:=by
 unfold noteFrame;simp only[hf];refine aa (wpAny_field he hd h1 ?_);rw[if_neg (by decide)];exact GS jK ff hf he st new hd (Array.getElem?_eq_some_iff.mp h1).1 k
theorem G7(jK:A.frames=some (env::outer))(hf:env.frame=some L)(x:ph B (env::outer) e cls dd .none s.heap)
  (k:∀h',ph B (env::outer) e cls dd (rawInt L) h'->s.heap.UpToSlots h'->Q () { s with heap:=h' }):wpAny M A (noteFrame (.ref e) env) Q E s:=by
 obtain⟨st,new,ff,oe,vs,T,oT,ts,he,⟨rfl,rfl⟩,hd,h1,⟨hn,Br⟩,hT,uX,h3⟩:=x;unfold noteFrame;simp only[hf];refine aa (wpAny_field he hd h1 ?_);rw[if_pos (show(Value.ref T != Value.none)=true from by simp)];refine aa (wpAny_field hT uX h3 ?_);rw[if_neg (show ¬((Value.none==rawInt L)=true) from by simp[rawInt])];obtain⟨r1,r2,r3⟩:=Cs hT uX 3 .none;refine aa (wpAny_setField hT uX (Array.getElem?_eq_some_iff.mp h3).1 ?_);refine GS jK (B1 r3 ff) hf ((r2 e (Ne.symm Br)).trans he) (fun b o q=>?_) new hd (Array.getElem?_eq_some_iff.mp h1).1 fun h' f u=>k h' f (r3.trans u)
 exact(r2 b fun z=>by rw[z,hn] at q;cases q).trans (st b o q)
theorem Ab(x:ph B l e cls dd fl s.heap)(k:∀h',ph B l e cls dd .none h'->s.heap.UpToSlots h'->Q () { s with heap:=h' }):wpAny M A (setFlight (.ref e) none) Q E s:=by
 obtain⟨st,new,ff,oe,vs,T,oT,ts,he,hc,hd,h1,⟨hn,Br⟩,hT,uX,h3⟩:=x;have z3:3<ts.size:=(Array.getElem?_eq_some_iff.mp h3).1;unfold setFlight;refine aa (wpAny_field he hd h1 ?_);rw[if_pos (show(Value.ref T != Value.none)=true from by simp)];obtain⟨r1,r2,r3⟩:=Cs hT uX 3 ((none:Option Addr).elim Value.none fun f=>rawInt f);refine wpAny_setField hT uX z3 (k _ ⟨fun b o q=>(r2 b fun z=>by rw[z,hn] at q;cases q).trans (st b o q),new,B1 r3 ff,oe,vs,T,_,_,(r2 e (Ne.symm Br)).trans he,hc,hd,h1,⟨hn,Br⟩,r1,Obj.data_mapFields uX _,by simp[z3]⟩ r3)
theorem Q6(jK:A.frames=some (env::outer))(ff:s.heap.FunFrames B (env::outer))(hf:env.frame=some L)(he:s.heap.get? e=some oe)(st:B.StaysIn s.heap)(new:B.get? e=none)(hd:oe.data=.fields vs)(h1:vs[1]?=some .none)
  (k:∀h',ph B outer e oe.cls oe.dict .none h'->s.heap.UpToSlots h'->Q () { s with heap:=h' }):wpAny M A (leaving env (.ref e)) Q E s:=
 aa (QW jK ff hf he st new hd h1 fun h' f u=>Ab f fun h2 f2 u2=>k h2 ⟨f2.st,f2.new,f2.ff.2.2,f2.tr⟩ (u.trans u2))
theorem Pj(jK:A.frames=some (env::outer))(hf:env.frame=some L)(x:ph B (env::outer) e cls dd .none s.heap)
  (k:∀h',ph B outer e cls dd .none h'->s.heap.UpToSlots h'->Q () { s with heap:=h' }):wpAny M A (leaving env (.ref e)) Q E s:=
 aa (G7 jK hf x fun h' f u=>Ab f fun h2 f2 u2=>k h2 ⟨f2.st,f2.new,f2.ff.2.2,f2.tr⟩ (u.trans u2))
end
end L2
namespace L2
open PySem PySem.Spec PyProof.Rows
section
variable {prog:Program} {w:World} {A:Around} {E:Value->Shared->Prop} {h:Heap} {g:Array GenState} {d:Drawn} {t:Nat} {os:OsState}
variable {nm q:Str} {C N fI:Addr} {bs bm bmB:List Value} {ou:Bool} {sn:List Str} {sub:List Value} {ab:Bool} {col:Option Bool} {dd:Option Addr} {k0 k1 k2 k3 k5:Option Value} {B newId initId:String} {mN:Str->Option Value} {rest:List Value} {oI:Obj}
theorem Ph(F:ExcBaseFacts B newId initId bmB)(T:OwnTail h bmB bm){Q:Value->Shared->Prop}(hC:h.get? C=some (excClassObj nm q C N bs bm ou sn sub ab col dd k0 k1 k2 k3 k5 newId))(hn:h.Ns N mN)(hi:mN "__init__"=some (.ref fI))(E9:h.get? fI=some oI)(E8:oI.cls=.type "function")
  (k:∀h' e,Heap.MadeExcOf h h' e (.ref C) rest->wpAny (model prog w) (A.under (.builtin "type.__call__" ⟨.ref C::rest,[]⟩)) (call (.ref fI) (.ref e::rest)) (fun r s'=>r=.none/\Q (.ref e) s') E ⟨h',g,d,t,os⟩) (tO:rest.length<=sizeLine) :
  wpAny (model prog w) A (call (.ref C) rest) Q E ⟨h,g,d,t,os⟩:=by
 have f1:=tc_lookup;have f2:=tc_bind (.ref C);have hT:(⟨h,g,d,t,os⟩:Shared).TypeIs (.ref C) "type":=⟨_,hC,rfl⟩
 refine wpAny_call (codeAny_of_tree ?_);show wpAny _ _ (callAny (.ref C) _) _ _ _;repeat(any_goals (first | assumption | with_reducible refine wpAny_loadPart_at hC ?_ | wp_step))
 refine⟨rfl,codeAny_call_builtin_at (Code.quiet_builtin _ (by decide +kernel)) entry_typeCall (wpAny_check_type_call_sub hC ?_)⟩;repeat(first | with_reducible refine wpAny_loadPart_at hC ?_ | with_reducible refine wpAny_madeBy_exc hC ?_ | wp_step)
 refine codeAny_call_builtin_code (Code.quiet_builtin _ F.quiet) (wpAny_check_new_subT F T hC (codeAny_exc_new_subT F T hC ?_ tO));generalize hp:(h.push _).push _=h2;have kp:∀b o,h.get? b=some o->h2.get? b=some o:=fun b o z=>by rw[<-hp];exact af _ (af _ z)
 have ge:h2.get? (h.objs.size+1)=some { cls:=.ref C,data:=.fields #[.ref h.objs.size,.none,.none,.none,.bool false,.none] }:=by rw[<-hp];heap_get
 have Vl:h2.get? h.objs.size=some { cls:=.type "tuple",data:=.seq rest.toArray }:=by rw[<-hp];exact af _ (Heap.get?_push_at rfl rfl)
 clear hp;have Kw:=kp _ _ hC;have U1:(Value.ref C::bm).contains (.ref C)=true:=by simp
 show wpAny _ _ _ _ _ _;unfold isInstance;repeat(first | with_reducible refine wpAny_loadPart_at ge ?_ | (with_reducible refine wpAny_isSubtype_exc Kw ?_;rw[U1]) | wp_step)
 show wpAny _ _ (typeLookup (.ref C) _) _ _ _;refine wpAny_typeLookup_tail Kw (hn.keeps kp) (T.keeps kp) F.mroIs F.init.lookup ?_;rw[hi];refine aQ (aa ?_);unfold bindSpecial;refine aa (wpAny_typeOf (T:="function") ⟨_,kp _ _ E9,E8⟩ ?_);rw[if_pos (by decide)];refine ag (aa (bc (k _ (h.objs.size+1) ⟨kp,Heap.get?_none_of_le (bp _),h.objs.size,ge,Heap.get?_none_of_le (aw _),Vl⟩) (fun r s' hr=>?_) fun _ _ x=>x));obtain⟨rfl,hQ⟩:=hr;wp_walk
 exact hQ
end
end L2
namespace L2
open PySem PySem.Spec PyProof.Rows
noncomputable def mY(K:PySem.W.Frag)(C:Addr)(bmB:List Value)(newId:String)(lX:Option Addr):Bool:=match K.lookup C with
 | some ⟨.type "type",_,.cls cd,sl⟩=>(match cd.mro,sl.toList with
  | .ref C'::bm,[_,_,_,_,some (.builtin n),_]=>C'==C&&n==newId&&!cd.hasDel&&PySem.W.tailIn K bmB bm&&PySem.W.nsOkIn K cd.ns&&PySem.W.nsIn K cd.ns "__init__"==some (lX.map Value.ref)
  | _,_=>false)
 | _=>false
def m9(C:Addr)(bmB:List Value)(newId:String)(lX:Option Addr)(h:Heap):Prop:=
 ∃bm N nm q bs ou sn sub ab col dd k0 k1 k2 k3 k5 mN,h.get? C=some (excClassObj nm q C N bs bm ou sn sub ab col dd k0 k1 k2 k3 k5 newId)/\h.Ns N mN/\mN "__init__"=lX.map Value.ref/\OwnTail h bmB bm
theorem Mq{K:PySem.W.Frag}{h:Heap}{N:Addr}{m:Str->Option Value}{n:Str}{v:Option Value}(X:K.In h)(G:h.Ns N m)(e:PySem.W.nsIn K N n=some v):m n=v:=by
 obtain⟨o,es,ep,ho,hd,_,hf⟩:=G;unfold PySem.W.nsIn at e;split at e
 ·rename_i look;have:=X _ _ look;rw[ho] at this;cases this;cases hd;rw[<-hf];unfold nsFind findBy;split at e
  ·rename_i he;cases e;rw[<-Array.find?_toList,he];rfl
  ·rename_i he;rw[<-Array.find?_toList,he];split at e
   ·cases e
   ·cases e;rfl
 ·cases e
theorem m9.of{K:PySem.W.Frag}{C:Addr}{bmB:List Value}{newId:String}{lX:Option Addr}{h:Heap}(X:K.In h)(z:mY K C bmB newId lX=true):m9 C bmB newId lX h:=by
 unfold mY at z;split at z
 ·rename_i d1 cd sl look;split at z
  ·rename_i c2 mr e0 e1 e2 e3 nn e5 he hz;simp only[Bool.and_eq_true,beq_iff_eq,Bool.not_eq_true'] at z;obtain⟨⟨⟨⟨⟨z1,z2⟩,z3⟩,z4⟩,z5⟩,z6⟩:=z;subst z1 z2;cases cd;dsimp only at he z3 z5 z6;subst he z3;obtain rfl:sl=#[e0,e1,e2,e3,some (.builtin nn),e5]:=by
    cases sl;simp only at hz;rw[hz]
   have N:Heap.Ns h _ _:=.of_isNs (PySem.W.isNs_of_in X z5);exact⟨_,_,_,_,_,_,_,_,_,_,_,_,_,_,_,_,_,X _ _ look,N,Mq X N z6,PySem.W.tail_of_in X z4⟩
  ·cases z
 ·cases z
def kB(e C:Addr)(dd:Option Addr):Heap->Prop:=fun h=>∃t,h.get? e=some { cls:=.ref C,dict:=dd,data:=.fields #[.ref t,.none,.none,.none,.bool false,.none] }
theorem B3{P:Program}{w:World}{H:Hp}{h:Heap}{e C:Addr}{dd:Option Addr}(x:kB e C dd h):dF P w H h e (.ext (kB e C dd)):=
 ⟨x,⟨_,x.choose_spec⟩,fun _ _ ⟨t,z⟩ k=>⟨t,k _ z⟩⟩
theorem MQ{H:Hp}{a:Addr}{o:HO}(h:H a=some o):upd H a o=H:=by
 funext b
 unfold upd;split
 ·rename_i z;rw[z,h]
 ·rfl
section
variable {X:Cx} {pos p ap:Pos} {es:List Expr} {e1 e2:Expr} {W:Str} {Wa:Addr} {B newId initId:String} {bmB:List Value} {t1 t2:TE}
def Mp(K:PySem.W.Frag)(bmB:List Value)(newId:String)(ts:TA):TE:=fun σ H Q=>ts σ H fun vs H1=>∃a v C dd lX,vs=[.ref a,v]/\H1 a=some (.ext (kB a C dd))/\mY K C bmB newId lX=true/\Q .non H1
theorem NV{ts:TA}{pl:Sem Bool}(F:ExcBaseFacts B newId initId bmB)(hm:X.mg W=some (.ref Wa))(hr:PySem.W.readsIn X.K Wa (.type "type")=true)(hs:PySem.W.specialIn X.K (.ref Wa) "__getattribute__"=some (some (.builtin "type.__getattribute__")))
  (hf:PySem.W.findCls X.K (.ref Wa) (.type "type") "__init__"=some (.val (.builtin initId))) (hh:PySem.W.handedIn (.builtin initId)=true) (ha:PA X [e1,e2] ts) (hg:Gl X W:=by rfl) (hd:(W==("__debug__":Str))=false:=by decide)
  (h1:starEach [e1,e2] X.env=(false,eval e1 X.env)::starEach [e2] X.env:=by rfl) (h2:(backTo pos (starEach [e2] X.env)).any (·.1)=false:=by rfl)
  (ht:eval (.Call (.Attribute (.Name W p) "__init__" ap) [e1,e2] [] pos) X.env=(do
   let ov <-eval (.Name W p) X.env
   standAt ap.atName
   let(f,first) <-holding [ov] (getMethod ov "__init__" pl)
   callWith pos f first (backTo pos (starEach [e1,e2] X.env)) (backToKw pos (keywordEach [] X.env))):=by rfl) :
  PE X (.Call (.Attribute (.Name W p) "__init__" ap) [e1,e2] [] pos) (Mp X.K bmB newId ts):=by
 intro pins s σ H Q I h;refine PySem.W.methodCall_KW (pl:=pl) (um I hg hm ?_ hd) ht;refine PySem.W.method_cls I.i4 hs (PySem.W.cls_value I.i4 hr hf hh ?_);refine PyProof.Rows.callWith_builtin1 (cK (ha pos pins _ σ H _ (I.tok _) h) fun us s1 bV=>?_) h1 h2;obtain⟨vs,H1,I1,r,a,v,C,dd,lX,hv,ea,hx,q⟩:=bV;subst hv;obtain⟨u1,u2,rfl,r1,r2⟩:=vv r;cases (show u1=Value.ref a from r1);obtain⟨bm,N,nm,qq,bs,ou,sn,sub,ab,col,dc,k0,k1,k2,k3,k5,mN,hC,hN,EM,OT⟩:=m9.of I1.i4 hx;obtain⟨t,he⟩:=(I1.cB a _ ea).1;obtain⟨hp,g,d,tk,os⟩:=s1;refine wpAny_call (codeAny_call_builtin F.init.plain F.initEntry (wpAny_check_init_subT F OT hC he rfl ?_));wp_walk
 have ge:=Heap.get?_update_self (Obj.mapFields fun x=>x.setIfInBounds 0 (Value.ref hp.objs.size)) (af { cls:=.type "tuple",data:=.seq #[u2] } he) rfl;refine⟨.non,H1,?_,rfl,q⟩;have J:=I1.write (x:=a) (e:=a) (o:=.ext (kB a C dd)) (t':=tk) (by rw[ea];trivial) (.inl rfl) (fun b u hb z=>(aU _ _ (Ne.symm hb)).trans (af _ z)) ⟨_,ge⟩ (B3 ⟨hp.objs.size,ge⟩);rw[MQ ea] at J;exact J
end
end L2
namespace L2
open PySem PySem.Spec PyProof.Rows Builtin Builtin.ObjectAttr
noncomputable def behind(bm:List Value):List Value->Bool
 | []=>bm==[]
 | v::r=>(v::r)==bm||match v with
  | .ref _=>behind bm r
  | _=>false
theorem Js{bm:List Value}{self:Value}(h0:refuseLoop self "__setattr__" bm=pure ()):∀{l:List Value},behind bm l=true->refuseLoop self "__setattr__" l=pure ()
 | [],e=>by rw[beq_iff_eq.mp e] at h0;exact h0
 | v::r,e=>by
  unfold behind at e;rcases Bool.or_eq_true_iff.mp e with q | q
  ·rw[beq_iff_eq.mp q];exact h0
  ·split at q
   ·rw[refuseLoop_ref];exact Js h0 q
   ·cases q
theorem Jf{bm:List Value}{v:Value}(h0:bm.contains v=true):∀{l:List Value},behind bm l=true->l.contains v=true
 | [],e=>by rw[beq_iff_eq.mp e] at h0;exact h0
 | u::r,e=>by
  unfold behind at e;rcases Bool.or_eq_true_iff.mp e with q | q
  ·rw[beq_iff_eq.mp q];exact h0
  ·split at q
   ·rw[List.contains_cons,Jf h0 q,Bool.or_true]
   ·cases q
noncomputable abbrev FF:List Value:=[.type "ValueError",.type "Exception",.type "BaseException",.type "object"]
section
variable {prog:Program} {w:World} {A:Around} {E:Value->Shared->Prop} {s:Shared} {K:PySem.W.Frag} {x C dx:Addr} {ox:Obj} {od:Option Obj} {name:Str} {v:Value} {cd:ClassData} {Q:Unit->Shared->Prop}
theorem O8(X:K.In s.heap)(I:PySem.W.InstAt s.heap x ox C od)(hc:PySem.W.clsIn K C=some cd)(hb:behind FF cd.mro=true)(hs:PySem.W.findIn K (.ref C) "__setattr__"=some (some (.builtin "object.__setattr__")))(hn:PySem.W.findIn K (.ref C) name=some none)
  (k:∀tk b,wpAny (model prog w) A.in1 (storeInOwnDict (.ref x) (.ref C) (.str name tk) name v b) (fun fin s'=>match fin with | .done (.ret _)=>Q () s' | _=>False) E { s with toks:=s.toks+1 }) :
  wpAny (model prog w) A (setAttr (.ref x) name v) Q E s:=by
 have SF:=PySem.F.store_ValueError;have ne:cd.mro.isEmpty=false:=by
  cases q:cd.mro with
  | nil=>rw[q] at hb;cases hb
  | cons _ _=>rfl
 have sub:PySem.W.Looks (model prog w) s.heap (isInstance (.ref x) (.type "object")) true:=I.type.andThen (PySem.W.looks_mroIn X (by unfold PySem.W.mroIn;rw[hc,Option.bind_some,if_neg (by rw[ne];decide),Jf rfl hb]));have hm:PySem.W.Looks (model prog w) s.heap (mroOf (.ref C)) cd.mro:=(PySem.W.looks_clsIn X hc).andThen .now;refine PySem.W.set_plain X I hs ?_;refine codeAny_call_builtin SF.slot.plain SF.entry (@PySem.W.check_slot (model prog w) _ _ { s with toks:=s.toks+1 } "object.__setattr__" "object" "__setattr__" (.ref x) [.str name s.toks,v] [] _ SF.kind SF.split sub (SF.args (.ref x) (.str name s.toks) v) ?_);rw[PySem.W.osa_eq,refuse_eq];refine aa (aa (PySem.W.Looks.here (s:={ s with toks:=s.toks+1 }) I.type (aa (PySem.W.Looks.here (s:={ s with toks:=s.toks+1 }) hm ?_))));rw[Js (SF.passes _) hb];refine ag (aa (PySem.W.Looks.here (s:={ s with toks:=s.toks+1 }) I.type (aa (PySem.W.Looks.here (s:={ s with toks:=s.toks+1 }) (PySem.W.looks_findIn X hn) (aa (PySem.W.Looks.here (s:={ s with toks:=s.toks+1 }) PySem.W.Looks.now ?_))))));refine bc (k s.toks _) (fun fin s' z=>?_) fun _ _ z=>z
 rcases fin with(_ | _ | _ | _) | _<;>first | exact z | exact z.elim
theorem NU{vs:Array Value}(X:K.In s.heap)(hx:s.heap.get? x=some ⟨.ref C,none,.fields vs,#[]⟩)(hc:PySem.W.clsIn K C=some cd)(hd:cd.hasDict=true)(hb:behind FF cd.mro=true)(hs:PySem.W.findIn K (.ref C) "__setattr__"=some (some (.builtin "object.__setattr__")))(hn:PySem.W.findIn K (.ref C) name=some none)
  (k:∀h' t',h'.get? x=some ⟨.ref C,some s.heap.objs.size,.fields vs,#[]⟩->h'.Ns1 s.heap.objs.size (fun y=>if y=name then some v else none)->(∀b o,b≠x->s.heap.get? b=some o->h'.get? b=some o)->Q () { s with heap:=h',toks:=t' }) :
  wpAny (model prog w) A (setAttr (.ref x) name v) Q E s:=by
 refine O8 X (od:=none) ⟨hx,rfl,rfl,trivial⟩ hc hb hs hn fun tk b=>?_
 obtain⟨h,g,d,t,os⟩:=s;dsimp only at hx X k ⊢;refine aa (ag (aa (aa (wpAny_loadPart hx (aa (PySem.W.Looks.here (s:=⟨h,g,d,t+1,os⟩) (PySem.W.looks_clsIn X hc) ?_))))));rw[hd];have Bg:(h.push { cls:=.type "dict",data:=.dict #[] }).get? x=some _:=af _ hx;have JS:x≠h.objs.size:=aD (aq hx);refine aa (wpAny_alloc' (aa (wpAny_update' Bg (ag ?_))));generalize hp:(h.push _).update x _=h2;have gx:h2.get? x=some ⟨.ref C,some h.objs.size,.fields vs,#[]⟩:=by rw[<-hp];exact Heap.get?_update_self _ Bg rfl
 have gd:h2.get? h.objs.size=some { cls:=.type "dict",data:=.dict #[] }:=by rw[<-hp];exact(aU _ _ JS).trans (Heap.get?_push_at rfl rfl)
 have go:∀b o,b≠x->h.get? b=some o->h2.get? b=some o:=fun b o hb z=>by rw[<-hp];exact(aU _ _ (Ne.symm hb)).trans (af _ z)
 clear hp;have nd:h2.Ns h.objs.size (fun _=>none):=⟨_,#[],_,gd,rfl,fun e he=>absurd he (by simp),fun _=>rfl⟩
 show wpAny _ _ (storeInDict h.objs.size (.str name tk) name v) _ _ _;unfold storeInDict newKeyGuard;refine aa (ag (aa (wpAny_nsSet1 (Heap.Ns1.of_empty nd) fun h' wx tN=>?_)));obtain⟨oD,Vs,Vt,EH,Fd,pX⟩:=wx.count (PySem.Within.cons name v PySem.Within.nil);refine aa (wpAny_lookBehind EH (by rw[Fd];exact pastItsLine_dict (aT pX (by rw[aB,bu,sizeLine_eq];omega))) ?_);refine ag (k h' _ ((tN.2 x JS).trans gx) wx fun b o hb z=>(tN.2 b (aD (aq z))).trans (go b o hb z))
end
end L2
namespace L2
open PySem PySem.Spec PyProof.Rows
def Xd(dx:Addr)(gs:List (Str×V)):Heap->Prop:=fun h=>∃mA,h.Ns1 dx mA/\∀f,k8 (gs.lookup f) (mA f)
theorem Mo{P:Program}{w:World}{H:Hp}{h:Heap}{dx:Addr}{gs:List (Str×V)}(x:Xd dx gs h):dF P w H h dx (.ext (Xd dx gs)):=by
 refine⟨x,?_,fun h1 h2 ⟨mA,⟨o,es,ep,e,r⟩,q⟩ k=>⟨mA,⟨o,es,ep,k _ e,r⟩,q⟩⟩;obtain⟨mA,⟨o,es,ep,e,_⟩,_⟩:=x;exact⟨o,e⟩
structure vd (K:PySem.W.Frag) (C:Addr) (f:Str):Prop where
 ex:(PySem.W.clsIn K C).any (fun cd=>cd.hasDict&&behind FF cd.mro)=true
 sa:PySem.W.findIn K (.ref C) "__setattr__"=some (some (.builtin "object.__setattr__"))
 no:PySem.W.findIn K (.ref C) f=some none
section
variable {X:Cx} {o value:Expr} {ta tv:TE} {f:Str} {pos pos':Pos}
def Mn(K:PySem.W.Frag)(ta tv:TE)(f:Str):TS:=fun D σ H=>tv σ H fun y H1=>ta σ H1 fun x H2=>∃a C,x=.ref a/\vd K C f/\H2 a=some (.ext (kB a C none))/\∀dx,H2 dx=none->dx≠a->D.nx σ (upd (upd H2 a (.ext (kB a C (some dx)))) dx (.ext (Xd dx [(f,y)])))
theorem NT(ha:PE X o ta)(hv:PE X value tv)(hs:swapsWith value (some (.Attribute o f pos')) pos.line X.env=pure false:=by rfl):PS X (.Assign [.Attribute o f pos'] value pos) (Mn X.K ta tv f):=by
 intro pins s σ H D I h;refine plainObj_wpAny_Assign_Attribute (cK (hv pins s σ H _ I h) fun u s1 bV=>?_) hs;obtain⟨y,H1,I1,ry,q⟩:=bV;refine cK (ha pins s1 σ H1 _ I1 q) fun ov s2 bV=>?_
 obtain⟨x,H2,I2,rx,a,C,ex,c,ea,q2⟩:=bV;subst ex;obtain rfl:ov=Value.ref a:=rx;obtain⟨cd,hc,hb⟩:=PySem.W.any_some c.ex;rw[Bool.and_eq_true] at hb;obtain⟨t,he⟩:=(I2.cB a _ ea).1;have hn:H2 s2.heap.objs.size=none:=I2.fresh;have eP:s2.heap.objs.size≠a:=Nat.ne_of_gt (aq he);refine NU I2.i4 he hc hb.1 hb.2 c.sa c.no fun h' t' gx hN ho=>?_
 have J:=I2.write (x:=a) (e:=a) (o:=.ext (kB a C (some s2.heap.objs.size))) (t':=t') (by rw[ea];trivial) (.inl rfl) ho ⟨_,gx⟩ (B3 ⟨t,gx⟩);have J2:=J.tell (a:=s2.heap.objs.size) (o:=.ext (Xd s2.heap.objs.size [(f,y)])) I2 (by rw[cN eP];exact hn) (Heap.get?_none_of_le (aw _)) (Mo ⟨_,hN,fun g=>?_⟩)
 ·exact⟨σ,_,J2,q2 _ hn eP⟩
 ·by_cases z:g=f
  ·subst z;simp only[List.lookup_cons,beq_self_eq_true,bh];exact ry
  ·simp only[List.lookup_cons,List.lookup_nil,beq_eq_false_iff_ne.mpr z,if_neg z];trivial
end
def Bw(C:Addr)(f:Str):Sp:=fun vs H Q _=>∃a v,vs=[.ref a,v]/\H a=some (.ext (kB a C none))/\∀dx,H dx=none->dx≠a->Q .non (upd (upd H a (.ext (kB a C (some dx)))) dx (.ext (Xd dx [(f,v)])))
section
variable {P:Program} {w:World} {K:PySem.W.Frag} {mg:Str->Option Value} {base:Heap}
theorem Mm{qual tx fn p:Str}{st:Stmt}{f C Wa:Addr}{fd:FuncData}{lX:Option Addr}{k:Nat}{kk}{p1 p2 p3 p4 p5 p6 p7 p8 p9 D3:Pos}{B newId initId:String}{bmB:List Value}(F:xa K "__init__" qual st f fd)(S:bI ["self",p] ["self",p] (bx st))
  (hb:cq st=[.Expr (.Call (.Attribute (.Name "WireError" p1) "__init__" p2) [.Name "self" p3,.Constant (.str tx) kk p4] [] p5) p6,.Assign [.Attribute (.Name "self" p7) fn p8] (.Name p p9) D3]) (FB:ExcBaseFacts B newId initId bmB)
  (hm:mg "WireError"=some (.ref Wa)) (hr:PySem.W.readsIn K Wa (.type "type")=true) (hs:PySem.W.specialIn K (.ref Wa) "__getattribute__"=some (some (.builtin "type.__getattribute__"))) (hf:PySem.W.findCls K (.ref Wa) (.type "type") "__init__"=some (.val (.builtin initId))) (hh:PySem.W.handedIn (.builtin initId)=true)
  (hx:mY K C bmB newId lX=true) (hc:vd K C fn) (v0:l8 (bx st) "self") (v1:l8 (bx st) p) (Fe:(p==("__debug__":Str))=false) (hd2:(p==("__classdict__":Str))=false)
  (hg:∀cf A outer s H E,Gl (jl hZ P w K mg base ["self",p] qual (bx st) f cf A outer s H E).kN "WireError")
  (ht:∀cf A outer s H E,∃pl,eval (.Call (.Attribute (.Name "WireError" p1) "__init__" p2) [.Name "self" p3,.Constant (.str tx) kk p4] [] p5) (jl hZ P w K mg base ["self",p] qual (bx st) f cf A outer s H E).kN.env=(do
   let ov <-eval (.Name "WireError" p1) (jl hZ P w K mg base ["self",p] qual (bx st) f cf A outer s H E).kN.env
   standAt p2.atName
   let(f',first) <-holding [ov] (getMethod ov "__init__" pl)
   callWith p5 f' first (backTo p5 (starEach [.Name "self" p3,.Constant (.str tx) kk p4] (jl hZ P w K mg base ["self",p] qual (bx st) f cf A outer s H E).kN.env)) (backToKw p5 (keywordEach [] (jl hZ P w K mg base ["self",p] qual (bx st) f cf A outer s H E).kN.env)))):fW P w K mg base hZ (k+1) f fd ["self",p] (Bw C fn):=by
 refine F.ok S (fun vs H Q E h=>?_) (fun cf A outer s H vs Q E oq h=>?_)
 ·obtain⟨a,v,rfl,_⟩:=h;rfl
 ·obtain⟨a,v,rfl,ha,q⟩:=h;rw[hb];obtain⟨pl,ht⟩:=ht cf A outer s H E;refine⟨_,xN (Aq (NV (initId:=initId) (Wa:=Wa) FB hm hr hs hf hh (mK (oR (i:=0) rfl v0 (by decide) (by decide)) (mK Gz pE)) (hg cf A outer s H E) (by decide) rfl rfl ht) rfl) (Ar (NT (oR (i:=0) rfl v0 (by decide) (by decide)) (oR (i:=1) rfl v1 Fe hd2))),?_⟩;exact⟨.ref a,rfl,a,_,C,none,lX,rfl,ha,hx,v,rfl,.ref a,rfl,a,C,rfl,hc,ha,fun dx h1 h2=>q dx h1 h2⟩
end
end L2
namespace L2
open PySem PySem.Spec PyProof.Rows
def F8(l:List Env)(C a:Addr)(dd:Option Addr)(P:Addr->Prop)(h:Heap):Prop:=∃B,ph B l a (.ref C) dd .none h/\∀b o,P b->h.get? b=some o->b∉ig l->B.get? b=some o
def xb(P:Program)(w:World):qT:=fun outer H s E e s'=>∃a C dd H',e=.ref a/\s'.os=s.os/\AllBare s'.gens/\Un (ig outer) [] H H' s.heap s'.heap/\iQ P w H' s'.heap/\H' a=none/\s.heap.get? a=none/\F8 outer C a dd (qS s H') s'.heap/\E (.ref C) dd H'
noncomputable def ud(H:Hp)(a:Addr):Hp:=fun b=>if b=a then none else H b
theorem vN{H:Hp}{a b:Addr}(h:b≠a):ud H a b=H b:=if_neg h
theorem Og{H:Hp}{a b:Addr}{o:HO}(h:ud H a b=some o):b≠a/\H b=some o:=by
 unfold ud at h;split at h
 ·cases h
 ·rename_i z;exact⟨z,h⟩
section
variable {X:Cx} {pins:List (Addr×Obj)} {σ:St} {H:Hp} {s:Shared} {a:Addr} {φ:Heap->Prop}
theorem Inv.drop{H1:Hp}{s1:Shared}(I:Inv X pins σ H s)(e:H a=some (.ext φ))(I1:Inv X pins σ H1 s1)(h0:H1 a=none):Inv X pins σ (ud H a) s:=by
 have nn:∀b,H b=none->ud H a b=none:=fun b z=>by
  unfold ud;split
  ·rfl
  ·exact z
 refine⟨I.ok,I.os,I.bare,⟨I.base.keep,I.base.slot,fun b o z n hx=>nn b (I.base.free b o z n hx),I.base.there,fun b xs z=>?_,fun b o u z=>?_,fun b ps z=>?_⟩,I.loc,I.cell,nn _ I.free,fun x c z=>nn _ (I.eU x c z),fun p hp=>?_,fun b u z=>?_,I.len⟩
 ·rw[vN (gX (I1.base.il b xs z) h0)];exact I.base.il b xs z
 ·rw[vN (gX (I1.base.hV b o u z) h0)];exact I.base.hV b o u z
 ·obtain⟨m,q⟩:=I.base.ip b ps z;obtain⟨m1,q1⟩:=I1.base.ip b ps z;exact⟨m,by rw[vN (gX q1 h0)];exact q⟩
 ·obtain⟨z1,z2,z3⟩:=I.pin p hp;exact⟨z1,nn _ z2,z3⟩
 ·obtain⟨hb,q⟩:=Og z;refine(I.cB b u q).jq (fun _ _ _ q=>q) (fun c q=>?_) fun c xs q=>?_
  ·rw[vN fun z=>by rw[z,e] at q;cases q];exact q
  ·rw[vN fun z=>by rw[z,e] at q;cases q];exact q
def BO(X:Cx)(W:XK):Prop:=∀(pins:List (Addr×Obj)) (σ:St) (H:Hp) (s:Shared) (a C:Addr) (dd:Option Addr),Inv X pins σ H s->H a=none->X.cS.heap.get? a=none->F8 X.stack C a dd (qS X.cS H) s.heap->W (.ref C) dd H->X.xe (.ref a) s
def B0(X:Cx)(W:XK):Prop:=∀(pins:List (Addr×Obj)) (σ:St) (H:Hp) (s:Shared) (a C:Addr) (dd:Option Addr),Inv X pins σ H s->H a=none->X.cS.heap.get? a=none->kB a C dd s.heap->W (.ref C) dd H->X.xe (.ref a) s
theorem Ml{W:XK}(hex:X.ex=[])(T:BO X W):vx (xb X.prog X.w) X W:=by
 intro pins σ H s e s' I ⟨a,C,dd,H',he,os,bare,un,cB,hn,hs,⟨B,fl,pf⟩,w⟩;subst he;obtain⟨hh,g,d,t,uF⟩:=s';obtain rfl:uF=s.os:=os;have back:∀b o,X.cS.heap.get? b=some o->∃o',s.heap.get? b=some o':=fun b o e=>I.base.there b o e (by rw[hex];simp)
 refine T pins σ H' _ a C dd (I.call (h':=hh) (g':=g) (d':=d) (t':=t) (ch:=[]) un cB bare fun b z=>absurd z (by simp)) hn ?_ ⟨B,fl,fun b o hb e n=>pf b o (hb.imp (fun bV=>by obtain⟨o',e'⟩:=bV;exact back b o' e') id) e n⟩ w;cases q:X.cS.heap.get? a with
 | none=>rfl
 | some o=>
  obtain⟨o',e'⟩:=back a o q;rw[hs] at e';cases e'
end
section
variable {P:Program} {w:World} {K:PySem.W.Frag} {mg:Str->Option Value} {base:Heap} {N:List Str} {qual:Str} {scope:Scope} {f C:Addr} {cd:Value} {A:Around} {outer:List Env} {s0:Shared} {H0:Hp} {E:XK}
theorem xI:BO (jl (xb P w) P w K mg base N qual scope f cd A outer s0 H0 E) E:=by
 intro pins σ H s a C dd I hn h0 ⟨B,fl,pf⟩ hw;refine Pj (B:=B) (outer:=outer) I.ok.frames rfl fl fun h' tU up=>?_
 obtain⟨un,cB,cv⟩:=I.gone rfl rfl rfl tU.st pf fun b _=>up b
 exact⟨a,C,dd,H,rfl,I.os,I.bare,un,cB,hn,h0,⟨B,tU,cv⟩,hw⟩
theorem Ax:B0 (jl (xb P w) P w K mg base N qual scope f cd A outer s0 H0 E) E:=by
 intro pins σ H s a C dd I hn h0 ⟨t,he⟩ hw;have fu:=I.mZ.gC;obtain⟨l,hl⟩:∃l,l=ig (envOfC qual scope s0.heap.objs.size f cd::outer):=⟨_,rfl⟩
 have no:∀b,qS s0 H b->b≠a:=fun b hb z=>by
  rcases hb with⟨o,e⟩ | e
  ·rw[z,show s0.heap.get? a=none from h0] at e;cases e
  ·exact e (by rw[z];exact hn)
 have pf:∀b o,qS s0 H b->s.heap.get? b=some o->b∉ig (envOfC qual scope s0.heap.objs.size f cd::outer)->(PySem.W.hideAll s.heap (a::ig (envOfC qual scope s0.heap.objs.size f cd::outer))).get? b=some o:=fun b o hb e n=>PySem.W.hideAll_get _ e fun z=>(ah.mp z).elim (no b hb) n
 refine Q6 (B:=PySem.W.hideAll s.heap (a::ig (envOfC qual scope s0.heap.objs.size f cd::outer))) (outer:=outer) I.ok.frames (PySem.W.funFrames_hide fu fun env he b hb=>aA _ (List.mem_filterMap.mpr ⟨env,he,hb⟩)) rfl he (fun b o q=>PySem.W.of_hideAll _ q) (PySem.W.hideAll_none _ (by simp)) rfl rfl fun h' tU up=>?_
 obtain⟨un,cB,cv⟩:=I.gone rfl rfl rfl tU.st pf fun b _=>up b
 exact⟨a,C,dd,H,rfl,I.os,I.bare,un,cB,hn,h0,⟨_,tU,cv⟩,hw⟩
end
section
variable {M:Model} {A:Around} {E:Value->Shared->Prop} {s:Shared} {env:Env} {Q:Flow->Shared->Prop} {x:Sem Value} {bmB:List Value} {newId:String}
theorem PV(hB:bmB.contains (.type "BaseException")=true)(hh:A.handled=none)(h:wpAny M A x (fun v s1=>∃a C dd lX,v=.ref a/\m9 C bmB newId lX s1.heap/\kB a C dd s1.heap/\E (.ref a) s1) E s):wpAny M A (raiseStmt env (some x) none) Q E s:=by
 unfold raiseStmt;refine aa (bc h (fun v s1 z=>?_) fun _ _ z=>z);obtain⟨a,C,dd,lX,rfl,⟨bm,N,nm,qq,bs,ou,sn,sub,ab,col,dc,k0,k1,k2,k3,k5,mN,hC,hN,EM,OT⟩,⟨t,he⟩,hE⟩:=z;have U2:(Value.ref C::bm).contains (.type "BaseException")=true:=by rw[List.contains_cons,OT.hasType hB,Bool.or_true]
 obtain⟨hp,g,d,tk,os⟩:=s1;repeat(first | with_reducible refine wpAny_loadPart_at he ?_ | with_reducible refine wpAny_loadPart_at hC ?_ | (with_reducible refine wpAny_isSubtype_exc hC ?_;rw[U2]) | wp_step)
 exact wpAny_raiseNew_none hh hE
end
section
variable {X:Cx} {pos np eQ:Pos} {te:TE} {e0:Expr} {W:XK} {C f:Addr} {fd:FuncData} {ps:List Str} {k k':Nat} {x fn:Str} {B newId initId:String} {bmB:List Value}
def NS(W:XK)(C:Addr)(fn:Str)(te:TE):TS:=fun _ σ H=>te σ H fun v H1=>[v].length=1/\∀dx,H1 dx=none->W (.ref C) (some dx) (upd H1 dx (.ext (Xd dx [(fn,[v].headD .non)])))
theorem PU(FB:ExcBaseFacts B newId initId bmB)(hx:mY X.K C bmB newId (some f)=true)(hm:X.mg x=some (.ref C))(EY:PySem.W.keepIn X.K (.ref C)=true)(tS:PySem.W.typeIn X.K (.ref f)=some (.type "function"))(F:fW X.prog X.w X.K X.mg X.base hZ k f fd ps (Bw C fn))(hb:Binds X.K fd ps [])(hr:cT (k+1) X.A)(hc:X.calm=true)(hex:X.ex=[])(T:B0 X W)(he:PE X e0 te)(hg:Gl X x:=by rfl)(hd:(x==("__debug__":Str))=false:=by decide)
  (hs:starEach [e0] X.env=(false,eval e0 X.env)::starEach [] X.env:=by rfl) (hp:(backTo eQ (starEach [] X.env)).any (·.1)=false:=by rfl):PS X (.Raise (some (.Call (.Name x np) [e0] [] eQ)) none pos) (NS W C fn te):=by
 intro pins s σ H D I h;rw[arm_exec_Raise];refine aa (wpAny_standAt ?_);show wpAny _ _ (raiseStmt X.env (some (do let v <-eval (.Call (.Name x np) [e0] [] eQ) X.env;standAt pos;pure v)) none) _ _ _;refine PV (bmB:=bmB) (newId:=newId) FB.hasBase (I.ok.hd hc) (aa (bc (Q:=fun v s1=>∃a C dd lX,v=.ref a/\m9 C bmB newId lX s1.heap/\kB a C dd s1.heap/\X.xe (.ref a) s1) ?_ (fun v s1 z=>aa (wpAny_standAt (ag z))) fun _ _ z=>z));have UC:PA X [e0] (Gf te F3):=mK he pE hs;refine wpAny_Call_Name_kw (um I hg hm ?_ hd);refine PySem.W.callWith_K (h₀:=X.base) I.ok.mod.wg EY (cK (UC eQ pins s σ H (fun vs H1=>vs.length=1/\∀dx,H1 dx=none->W (.ref C) (some dx) (upd H1 dx (.ext (Xd dx [(fn,vs.headD .non)])))) I ?_) fun us s1 ⟨vs,H1,I1,r,hv,q⟩=>⟨I1.i4,?_⟩) hs hp
 ·exact h
 obtain⟨v,rfl⟩:∃v,vs=[v]:=List.length_eq_one_iff.mp hv
 rw[List.headD_cons] at q;obtain⟨u,rfl,ru⟩:=Vals.one r;obtain⟨bm,N,nm,qq,bs,ou,sn,sub,ab,col,dc,k0,k1,k2,k3,k5,mN,hC,hN,EM,OT⟩:=m9.of I1.i4 hx;obtain⟨oI,look,E8⟩:∃oI,X.K.lookup f=some oI/\oI.cls=.type "function":=by
  unfold PySem.W.typeIn at tS;exact Option.map_eq_some_iff.mp tS
 have E9:=I1.i4 _ _ look;obtain⟨y7,g,d,tk,os⟩:=s1;show wpAny _ _ (call (.ref C) [u]) _ _ _;refine Ph FB OT hC hN EM E9 E8 (fun h' e uV=>?_) (by rw[sizeLine_eq];exact(by decide:1<=16777216));have hn:H1 e=none:=by
  cases z:H1 e with
  | none=>rfl
  | some o=>
   obtain⟨ob,z2⟩:=(I1.cB e _ z).some;rw[uV.new] at z2;cases z2
 have h0:X.cS.heap.get? e=none:=by
  cases z:X.cS.heap.get? e with
  | none=>rfl
  | some o=>
   obtain⟨ob,z2⟩:=I1.base.there e o z (by rw[hex];simp);rw[uV.new] at z2;cases z2
 obtain⟨t,het,_,_⟩:=uV.there;have J:Inv X pins σ H1 ⟨h',g,d,tk,os⟩:=I1.kept (t':=tk) uV.keeps;have J1:=J.tell (a:=e) (o:=.ext (kB e C none)) I1 hn uV.new (B3 ⟨t,het⟩);have sp:Bw C fn [.ref e,v] (upd H1 e (.ext (kB e C none))) (fun w' H'=>w'=.non/\∃dx,H1 dx=none/\dx≠e/\H'=upd (upd (upd H1 e (.ext (kB e C none))) e (.ext (kB e C (some dx)))) dx (.ext (Xd dx [(fn,v)]))) (fun _ _ _=>False):=
  ⟨e,v,rfl,gB,fun dx h1 h2=>⟨rfl,dx,by rw[cN h2] at h1;exact h1,h2,rfl⟩⟩
 have pl:=F.len _ _ _ _ sp;have bd:=hb ⟨h',g,d,tk,os⟩ [.ref e,u] J1.i4 (by rw[aM];exact pl);rw[aM] at bd;refine wpAny_call (codeAny_mono (F.run _ X.stack ⟨h',g,d,tk,os⟩ _ ⟨[.ref e,u],[]⟩ [.ref e,u] [.ref e,v] _ _ (hr.make C [u] []) (J1.mZ.make C [u] []) bd (.cons rfl (.cons ru .nil)) sp) fun r s' hq=>?_);cases r with
 | error e'=>exact hq.elim
 | ok fl=>
  cases fl with
  | ret u'=>
   obtain⟨w',H',J2,rO,rfl,dx,lZ,eP,rfl⟩:=J1.after hq;have qM:upd (upd (upd H1 e (.ext (kB e C none))) e (.ext (kB e C (some dx)))) dx (.ext (Xd dx [(fn,v)])) e=some (.ext (kB e C (some dx))):=by rw[cN (Ne.symm eP),gB]
   have hX:=(J2.cB e _ qM).1;have eH:ud (upd (upd (upd H1 e (.ext (kB e C none))) e (.ext (kB e C (some dx)))) dx (.ext (Xd dx [(fn,v)]))) e=upd H1 dx (.ext (Xd dx [(fn,v)])):=by
    funext b
    by_cases z:b=e
    ·rw[z,cN (Ne.symm eP),hn];exact if_pos rfl
    ·rw[vN z];by_cases z2:b=dx
     ·rw[z2,gB,gB]
     ·rw[cN z2,cN z,cN z,cN z2]
   have J3:=J2.drop qM I1 hn;rw[eH] at J3;refine⟨rO,e,C,some dx,some f,rfl,m9.of J2.i4 hx,hX,T pins σ _ s' e C (some dx) J3 (by rw[cN (Ne.symm eP)];exact hn) h0 hX (q dx lZ)⟩
  | next=>exact hq.elim
  | brk=>exact hq.elim
  | cont=>exact hq.elim
end
end L2
namespace L2
open PySem PySem.Spec PyProof.Rows
noncomputable abbrev XQ:=Str->Str->R->Prop
noncomputable abbrev iJ:=List D->(R->Prop)->XQ->Prop
def Bx(K:PySem.W.Frag)(G H H0:Hp)(C:Addr)(dd:Option Addr)(cn fn:Str)(r:R):Prop:=PySem.W.nsIn K mainGlobals cn=some (some (.ref C))/\∃dx v,dd=some dx/\nc G (some dx) [(fn,v)]/\de K G H H0 v r
theorem Bx.ef{K:PySem.W.Frag}{G H H0 H1:Hp}{C:Addr}{dd:Option Addr}{cn fn:Str}{r:R}(s:bL H1 H0)(x:Bx K G H H0 C dd cn fn r):Bx K G H H1 C dd cn fn r:=let⟨h,dx,v,a,b,c⟩:=x;⟨h,dx,v,a,b,c.ef s⟩
def Wx(K:PySem.W.Frag)(W:XK)(Qx:XQ)(G0 H0:Hp):Prop:=∀G' H' C dd cn fn r,Ext G0 H0 G' H'->Bx K G' H' H0 C dd cn fn r->Qx cn fn r->W (.ref C) dd H'
def t7(K:PySem.W.Frag)(n:Nat)(t:iJ):Sp:=fun vs H Q E=>∃G ds Qr Qx,bL G H/\bB K G vs ds/\ds.length=n/\t ds Qr Qx/\(∀v H' r G',Ext G H G' H'->de K G' H' H v r->Qr r->Q v H')/\Wx K E Qx G H
structure cm (P:Program) (w:World) (K:PySem.W.Frag) (mg:Str->Option Value) (base:Heap) (k:Nat) (x:Str) (n:Nat) (t:iJ):Prop where
 ex:∃(f:Addr) (fd:FuncData) (ps:List Str),fW P w K mg base (xb P w) k f fd ps (t7 K n t)/\mg x=some (.ref f)/\PySem.W.keepIn K (.ref f)=true/\Binds K fd ps []
theorem NR{H:Hp}{dx:Addr}{gs:List (Str×V)}(h:H dx=some (.ext (Xd dx gs))):nc H (some dx) gs:=
 ⟨_,h,fun _ ⟨mA,n,r⟩=>⟨mA,n,fun f v l=>let⟨u,e,z⟩:=k8.some_of (v:=v) (o:=mA f) (by rw[<-l];exact r f);⟨u,e,z⟩⟩⟩
section
variable {X:Cx} {c:Hp->Hp->Prop} {pos:Pos} {e:Expr} {es:List Expr} {te:TD} {ts:iI}
def FH(X:Cx)(c:Hp->Hp->Prop)(e:Expr)(t:TD):Prop:=∃tt,PE X e tt/\∀(ρ:Ev) (σ:St) (G0 H0 G H:Hp) (Q:R->Prop) (P:VK),cF X.K G0 H0 ρ σ G H->t ρ Q->(∀v H' r G',Ext G H G' H'->de X.K G' H' H v r->Q r->P v H')->c G0 H0->tt σ H P
def F7(X:Cx)(c:Hp->Hp->Prop)(es:List Expr)(t:iI):Prop:=∃tt,PA X es tt/\∀(ρ:Ev) (σ:St) (G0 H0 G H:Hp) (Q:List D->Prop) (P:List V->Hp->Prop),cF X.K G0 H0 ρ σ G H->t ρ Q->(∀vs H' ds G',Ext G H G' H'->bB X.K G' vs ds->Q ds->P vs H')->c G0 H0->tt σ H P
def t4(X:Cx)(c:Hp->Hp->Prop)(st:Stmt)(t:TX):Prop:=∃tt,PS X st tt/\∀(ρ:Ev) (σ:St) (G0 H0 G H:Hp) (D:DE) (E:Ends),cF X.K G0 H0 ρ σ G H->t D ρ->Goes X.K G0 H0 G D E->c G0 H0->tt E σ H
def sJ(X:Cx)(c:Hp->Hp->Prop)(st:List Stmt)(t:TX):Prop:=∃tt,la X st tt/\∀(ρ:Ev) (σ:St) (G0 H0 G H:Hp) (D:DE) (E:Ends),cF X.K G0 H0 ρ σ G H->t D ρ->Goes X.K G0 H0 G D E->c G0 H0->tt E σ H
theorem xH(h:lb X es ts):F7 X c es ts:=let⟨tt,p,q⟩:=h;⟨tt,p,fun ρ σ G0 H0 G H Q P E h k _=>q ρ σ G0 H0 G H Q P E h k⟩
theorem Cc{st:Stmt}{t:TX}(h:PX X st t):t4 X c st t:=let⟨tt,p,q⟩:=h;⟨tt,p,fun ρ σ G0 H0 G H D E k h g _=>q ρ σ G0 H0 G H D E k h g⟩
theorem Al{jo:List Stmt}{t:TX}(h:md X jo t):sJ X c jo t:=let⟨tt,p,q⟩:=h;⟨tt,p,fun ρ σ G0 H0 G H D E k h g _=>q ρ σ G0 H0 G H D E k h g⟩
theorem vW{st:Stmt}{jo:List Stmt}{t u:TX}(h1:t4 X c st t)(h2:sJ X c jo u):sJ X c (st::jo) (b8 t u):=by
 obtain⟨t1,p1,q1⟩:=h1;obtain⟨t2,p2,q2⟩:=h2;exact⟨_,xN p1 p2,fun ρ σ G0 H0 G H D E k h g hw=>q1 ρ σ G0 H0 G H _ _ k h ⟨fun ρ' cc G' H' s' k' h'=>q2 ρ' cc G0 H0 G' H' D E k' h' (g.shift s') hw,g.rt,g.bk,g.ct⟩ hw⟩
theorem nC{st:Stmt}{t:TX}(h1:t4 X c st t):sJ X c [st] t:=let⟨t1,p1,q1⟩:=h1;⟨_,Ar p1,q1⟩
theorem Aa{cd:Expr}{a b:List Stmt}{tc:iP}{t u:TX}(hc:PB X cd tc)(ha:sJ X c a t)(hb:sJ X c b u):t4 X c (.If cd a b pos) (eO tc t u):=by
 obtain⟨t0,p0,q0⟩:=hc;obtain⟨t1,p1,q1⟩:=ha;obtain⟨t2,p2,q2⟩:=hb;refine⟨_,B2 p0 p1 p2,fun ρ σ G0 H0 G H D E k h g hw=>q0 ρ σ G0 H0 G H _ _ k h fun b H' G' x hq=>?_⟩;cases b with
 | true=>
  rw[if_pos rfl] at hq ⊢;exact q1 ρ σ G0 H0 G' H' D E (k.ext x) hq (g.shift x.g) hw
 | false=>
  rw[if_neg az] at hq ⊢;exact q2 ρ σ G0 H0 G' H' D E (k.ext x) hq (g.shift x.g) hw
theorem Aw(h:FH X c e te)(hs:swapsWith e none pos.line X.env=pure false:=by rfl):t4 X c (.Expr e pos) (vp te):=by
 obtain⟨t,p,q⟩:=h;exact⟨_,Aq p hs,fun ρ σ G0 H0 G H D E k h g hw=>q ρ σ G0 H0 G H _ _ k h (fun v H' r G' x rr hq=>g.nx ρ σ G' H' x.g (k.ext x) hq) hw⟩
theorem NQ(h:FH X c e te):t4 X c (.Return (some e) pos) (ft te):=by
 obtain⟨t,p,q⟩:=h;exact⟨_,Ae p,fun ρ σ G0 H0 G H D E k h g hw=>q ρ σ G0 H0 G H _ _ k h (fun v H' r G' x rr hq=>g.rt v H' r G' (k.e.trans x) (rr.ef k.e.h) hq) hw⟩
end
section
variable {X:Cx} {W:XK} {Qx:XQ} {pos:Pos} {e:Expr} {es:List Expr} {te:TD} {ts:iI}
def nY(n:Nat)(t:iJ)(Qx:XQ)(ts:iI):TD:=fun ρ Q=>ts ρ fun ds=>ds.length=n/\t ds Q Qx
theorem x8{k k' n:Nat}{t:iJ}{x:Str}{p:Pos}(F:cm X.prog X.w X.K X.mg X.base k x n t)(hr:cT k' X.A)(hex:X.ex=[])(T:BO X W)(ha:F7 X (Wx X.K W Qx) (e::es) ts)(hk:k<=k':=by decide)(hg:Gl X x:=by rfl)(js:(x==("__debug__":Str))=false:=by decide)
  (he:starEach (e::es) X.env=(false,eval e X.env)::starEach es X.env:=by rfl) (fR:(backTo pos (starEach es X.env)).any (·.1)=false:=by rfl):FH X (Wx X.K W Qx) (.Call (.Name x p) (e::es) [] pos) (nY n t Qx ts):=by
 obtain⟨f,fd,ps,F,hm,kp,hb⟩:=F.ex;obtain⟨tt,pp,q⟩:=ha;refine⟨_,Ap F (hr.mono hk) hg hm kp hb .nil (Ml hex T) pp js he fR,fun ρ σ G0 H0 G H Q P E h k hw=>q ρ σ G0 H0 G H _ _ E h (fun vs H' ds G' y rs hq=>?_) hw⟩;rw[aM];exact⟨G',ds,Q,Qx,y.s,rs,hq.1,hq.2,fun v H2 r G2 x2 rr q2=>k v H2 r G2 (y.trans x2) (rr.ef y.h) q2,fun G2 H2 C dd cn fn r x2 xo=>hw G2 H2 C dd cn fn r ((E.e.trans y).trans x2) (xo.ef (E.e.trans y).h)⟩
def rG(cn fn:Str)(Qx:XQ)(te:TD):TX:=fun _ ρ=>te ρ fun r=>Qx cn fn r
structure kA (P:Program) (w:World) (K:PySem.W.Frag) (mg:Str->Option Value) (base:Heap) (k:Nat) (cn fn:Str):Prop where
 ex:∃(C f:Addr) (fd:FuncData) (ps:List Str) (B newId initId:String) (bmB:List Value),ExcBaseFacts B newId initId bmB/\mY K C bmB newId (some f)=true/\PySem.W.nsIn K mainGlobals cn=some (some (.ref C))/\mg cn=some (.ref C)/\PySem.W.keepIn K (.ref C)=true/\PySem.W.typeIn K (.ref f)=some (.type "function")/\fW P w K mg base hZ k f fd ps (Bw C fn)/\Binds K fd ps []
theorem AJ{cn fn:Str}{k k':Nat}{np eQ:Pos}(O:kA X.prog X.w X.K X.mg X.base k cn fn)(hr:cT k' X.A)(hc:X.calm=true)(hex:X.ex=[])(T:B0 X W)(he:PD X e te)(hk:k+1<=k':=by decide)(hg:Gl X cn:=by rfl)(hd:(cn==("__debug__":Str))=false:=by decide)
  (hs:starEach [e] X.env=(false,eval e X.env)::starEach [] X.env:=by rfl) (hp:(backTo eQ (starEach [] X.env)).any (·.1)=false:=by rfl):t4 X (Wx X.K W Qx) (.Raise (some (.Call (.Name cn np) [e] [] eQ)) none pos) (rG cn fn Qx te):=by
 obtain⟨C,f,fd,ps,B,newId,initId,bmB,FB,hx,lI,hm,EY,tS,F,hb⟩:=O.ex;obtain⟨tt,p,q⟩:=he;refine⟨_,PU FB hx hm EY tS F hb (hr.mono hk) hc hex T p hg hd hs hp,fun ρ σ G0 H0 G H D E k h g hw=>q ρ σ G0 H0 G H _ _ k h fun v H' r G' x rr hq=>⟨rfl,fun dx lZ=>?_⟩⟩;have x3:Ext G' H' (upd G' dx (.ext (Xd dx [(fn,v)]))) (upd H' dx (.ext (Xd dx [(fn,v)]))):=.new x.s lZ;exact hw _ _ C (some dx) cn fn r ((k.e.trans x).trans x3) ⟨lI,dx,v,rfl,NR gB,(rr.ext x3).ef k.e.h⟩ hq
end
section
variable {P:Program} {w:World} {K:PySem.W.Frag} {mg:Str->Option Value} {base:Heap}
theorem vT{x:Str}{st:Stmt}{N ps:List Str}{t:iJ}{T:XQ->TX}{n d:Nat}(k:Nat)(A:At K mg x st)(S:bI N ps (bx st))
  (body:∀(Qx:XQ) (f:Addr) (cf:Value) (A:Around) (outer:List Env) (s:Shared) (H:Hp) (E:XK),cT k (A.deeper (envOfC x (bx st) s.heap.objs.size f cf))->sJ (jl (xb P w) P w K mg base N x (bx st) f cf A outer s H E) (Wx K E Qx) (cq st) (T Qx))
  (spec:∀(ds:List D) (Qr:R->Prop) (Qx:XQ),ds.length=n->t ds Qr Qx->T Qx { nx:=fun _=>Qr (.fz .non),rt:=Qr } (lS N ds))
  (b:∀(kV doc pm:Value) (an:Option Addr) (cf ct:Value) (us:List Value),us.length=n->bindArgs (PySem.W.fnOf x x (dX st) (cq st) (bx st) .none kV doc pm an cf ct) ⟨us,[]⟩=pure (ps.zip us)) (hn:ps.length=n:=by rfl) (hd:k+1=d:=by rfl):cm P w K mg base d x n t:=by
 subst hn hd;obtain⟨f,fd,F,hm⟩:=A.ex;refine⟨f,fd,ps,?_,hm,F.kp,F.binds b⟩;obtain⟨oc,od,kV,doc,pm,an,cf,ct,nI,rfl,lk,iO⟩:=F.ex;refine Gm lk iO S (fun vs H Q E h=>?_) fun A outer s H vs Q E hr h=>?_
 ·obtain⟨G,ds,Qr,Qx,_,r,hl,_⟩:=h;rw[r.length,hl]
 ·obtain⟨G,ds,Qr,Qx,s0,r,hl,ht,k0,kx⟩:=h;obtain⟨tt,p,q⟩:=body Qx f cf A outer s H E hr;exact⟨tt,p,q _ _ G H G H _ _ (Az s0 r) (spec ds Qr Qx hl ht) ⟨fun ρ σ G' H' _ e h=>k0 _ H' _ G' e.e (fj (Ao _ _)) h,k0,fun _ _ _ _ _ _ h=>h.elim,fun _ _ _ _ _ _ h=>h.elim⟩ kx⟩
end
end L2
namespace PySem.W
open PySem PySem.Spec PySem.Calls PyProof.Rows Builtin Builtin.ObjectAttr Builtin.Getset_descriptor
section
variable {prog:Program} {w:World} {A:Around} {E:Value->Shared->Prop} {s:Shared} {K:Frag} {x C:Addr} {ox:Obj} {od:Option Obj} {name:Str} {v:Value}
theorem qf{expr:Bool}{Q:Value->Shared->Prop}(X:K.In s.heap)(I:InstAt s.heap x ox C od)(E7:findIn K (.ref C) "__getattribute__"=some (some (.builtin "BaseException.__getattribute__")))(E5:findIn K (.ref C) "__getattr__"=some none)
  (hb:mroIn K C (.type "BaseException")=some true) (hf:findObj K C od name=some (.value v)) (hh:handedIn v=true) (h:Q v { s with toks:=s.toks+1 }):wpAny (model prog w) A (getAttr (.ref x) name expr) Q E s:=by
 obtain⟨hp,gg,d,t,os⟩:=s;have EX:jQ hp x C:=⟨ox,I.at_,I.cls⟩
 have L0:=I.type (M:=model prog w);have L1:=looks_findIn (M:=model prog w) X E7;have L2:=looks_findIn (M:=model prog w) X E5;have L3:=looks_find (M:=model prog w) X I hf;have f3:=F.excAttr_ValueError.ga.bind (.ref x);have Uj:(expr&&onTheHeap (Value.builtin "BaseException.__getattribute__"))=false:=by cases expr<;>rfl
 have Bg:(onTheHeap (Value.ref C)&&Value.builtin "BaseException.__getattribute__"==Value.builtin "object.__getattribute__")=false:=by rw[show(Value.builtin "BaseException.__getattribute__"==Value.builtin "object.__getattribute__")=false by decide +kernel];rfl
 unfold getAttr;refine aa (wpAny_mkText ?_);unfold getAttrBy;refine aQ (aa (L0.at (aa (L1.at ?_))));dsimp only;rw[if_neg (by rw[Bg];decide)];unfold getAttrByItsOwn;refine aa (L2.at (aa (wpAny_attempt (aQ ?_))));unfold callGetattribute;rw[Uj,if_neg (by decide)];unfold boundAndCalled;rw[f3];refine aa (ag (wpAny_call (codeAny_call_builtin F.excAttr_ValueError.ga.plain F.entry_bexc_ga (HP (s:=⟨hp,gg,d,t+1,os⟩) X EX hb ?_))));unfold Builtin.«object.__getattribute__»;refine aa (ag (aa (ag (aa (L0.at (aa (L3.at ?_)))))));refine ag ?_;show wpAny _ _ (handedOut v) _ _ _;rw[handedOut_of hh];exact ag h
end
end PySem.W
namespace L2
open PySem PySem.Spec PyProof.Rows
structure kC (K:PySem.W.Frag) (C:Addr) (f:Str):Prop where
 ga:PySem.W.findIn K (.ref C) "__getattribute__"=some (some (.builtin "BaseException.__getattribute__"))
 gb:PySem.W.findIn K (.ref C) "__getattr__"=some none
 mb:PySem.W.mroIn K C (.type "BaseException")=some true
 hd:PySem.W.hasDictIn K C=true
 no:PySem.W.findIn K (.ref C) f=some none
section
variable {X:Cx} {e:Expr} {pos:Pos} {f:Str} {ta:TE} {te:TD}
def Mj(K:PySem.W.Frag)(ta:TE)(f:Str):TE:=fun σ H Q=>ta σ H fun x H1=>∃a φ C dx gs v,x=.ref a/\H1 a=some (.ext φ)/\(∀h:Heap,φ h->∃o vs,h.get? a=some o/\o.cls=.ref C/\o.dict=some dx/\o.data=.fields vs)/\nc H1 (some dx) gs/\kC K C f/\gs.lookup f=some v/\Q v H1
theorem NP(he:PE X e ta)(hb:attributeBase e f X.env (eval e X.env)=eval e X.env):PE X (.Attribute e f pos) (Mj X.K ta f):=by
 intro pins s σ H Q I h;refine Hz hb (cK (he pins s σ H _ I h) fun u s1 bV=>?_);obtain⟨x,H1,I1,rx,a,φ,C,dx,gs,v,ex,ea,Em,⟨ψ,ed,Ug⟩,c,l,q⟩:=bV;subst ex;obtain rfl:u=Value.ref a:=rx;obtain⟨o,vs,h1,h2,h3,h4⟩:=Em _ (I1.cB a _ ea).1;obtain⟨mA,hN,hr⟩:=Ug _ (I1.cB dx _ ed).1;obtain⟨od,ho,hl⟩:=IS hN;obtain⟨u,hu,ru⟩:=hr f v l;have J:PySem.W.InstAt s1.heap a o C (some od):=⟨h1,h2,by unfold PySem.W.notCls;rw[h4],by rw[h3];exact ho⟩
 exact PySem.W.qf I1.i4 J c.ga c.gb c.mb (PySem.W.findObj_own c.hd c.no rfl (by rw[hl,hu])) (IQ ru) ⟨v,H1,I1.tok _,ru,q⟩
def vw(ok:List Str)(f:Str)(te:TD):TD:=fun ρ Q=>te ρ fun r=>match r.val with
 | .exc cn fs=>cn∈ok/\∃d,fs.lookup f=some d/\Q (.fz d)
 | _=>False
theorem Ak{ok:List Str}(he:PD X e te)(cB:∀cn∈ok,∀C,PySem.W.nsIn X.K mainGlobals cn=some (some (.ref C))->kC X.K C f)(hb:attributeBase e f X.env (eval e X.env)=eval e X.env:=by rfl):PD X (.Attribute e f pos) (vw ok f te):=by
 obtain⟨t,p,q⟩:=he;refine⟨_,NP p hb,fun ρ σ G0 H0 G H Q P E h k=>q ρ σ G0 H0 G H _ _ E h fun v H' r G' x rr hq=>?_⟩;obtain⟨G2,x2,rv,_⟩:=rr.freeze x;split at hq
 ·rename_i cn fs e1;rw[e1] at rv;simp only[Rep] at rv;obtain⟨a,φ,C,dd,gs,rfl,h1,h2,h3,h4,h5⟩:=rv;obtain⟨lI,d,hd,hq⟩:=hq;obtain⟨v,hv,rv⟩:=h5.look hd;have ne:fs≠[]:=fun z=>by rw[z] at hd;cases hd
  have h4:=h4.resolve_left ne;have h3:∀h:Heap,φ h->∃o vs,h.get? a=some o/\o.cls=.ref C/\o.dict=dd/\o.data=.fields vs:=fun h z=>by
   obtain⟨o,z1,z2,z3⟩:=h3 h z;obtain⟨z3,vs,z4⟩:=z3.resolve_left ne;exact⟨o,vs,z1,z2,z3,z4⟩
  cases dd with
  | none=>
   cases (show gs=[] from h4);cases hv
  | some dx=>exact⟨a,φ,C,dx,gs,v,rfl,x2.s _ _ h1,h3,h4.mono x2.s,cB cn lI C h2,hv,k _ _ _ G2 x2 (fj rv) hq⟩
 ·exact hq.elim
end
end L2
namespace L2
open PySem PySem.Spec PyProof.Rows
def wj(a C:Addr)(dd:Option Addr):Heap->Prop:=fun h=>∃o vs,h.get? a=some o/\o.cls=.ref C/\o.dict=dd/\o.data=.fields vs
section
variable {X:Cx} {pins:List (Addr×Obj)} {σ:St} {H:Hp} {s:Shared}
theorem NO{s':Shared}{E:XK}{e:Value}{C':Addr}{ex er:Str}{np pos:Pos}{q:Nat}{b0:Stmt}{kM:List Stmt}{tt:Addr->TS}{D:Ends}{Q:Flow->Shared->Prop}(I:Inv X pins σ H s)(hx:xb X.prog X.w X.stack H s E e s')(hm:X.mg ex=some (.ref C'))
  (gI:X.stack=X.env::X.outer) (hf:X.env.frame=some X.env.locals) (hg:Gl X ex) (hd:(ex==("__debug__":Str))=false) (y0:X.xe=fun _ _=>False) (hN:X.N.Nodup)
  (hi:X.N[q]?=some er) (UZ:X.env.kindOf er=some .local) (Bo:Loc X.env.scope er) (Fb:X.fn er=true\/X.env.scope.names.lookup er=some .local) (st:∀a,la (X.iE a) (b0::kM) (tt a))
  (hE:∀C dd H',E (.ref C) dd H'->∀a,H' a=none->PySem.W.exmOne X.K (.ref C) (.ref C')=some true/\tt a { nx:=fun cc H2=>D.nx (cc.set q none) H2,rt:=fun _ _=>False } (σ.set q (some (.ref a))) (upd H' a (.ext (wj a C dd))))
  (k:∀cc H' s2,Inv X pins cc H' s2->D.nx cc H'->Q .next s2) :
  wpAny (model X.prog X.w) X.A (noteFrame e X.env) (fun _ jn=>wpAny (model X.prog X.w) X.A (setFlight e none) (fun _ mQ=>wpAny (model X.prog X.w) X.A (handleBy e X.env [.ExceptHandler (some (.Name ex np)) (some er) (b0::kM) pos]) Q (fun _ _=>False) mQ) (fun _ _=>False) jn) (fun _ _=>False) s':=by
 obtain⟨a,C,dd,H',rfl,os,bare,un,cB,hn,hs,⟨B,fl,pf⟩,he⟩:=hx;obtain⟨UJ,Uq⟩:=hE C dd H' he a hn;have fr:∀b∈ig X.stack,H b=none/\∃o,s.heap.get? b=some o/\∀vs,o.data≠.fields vs:=fun b hb=>⟨I.mZ.qd b hb,(I.mZ.gC.mem hb).2⟩
 have after:∀h2,B.StaysIn h2->s'.heap.UpToSlots h2->Inv X pins σ H' { s' with heap:=h2 }:=fun h2 st up=>by
  obtain⟨Ti,EC⟩:=MS un fr st pf up cB;obtain⟨hh,g,d,t,uF⟩:=s';obtain rfl:uF=s.os:=os;have J:Inv X pins σ H' { s with heap:=h2,gens:=g,drawn:=d,toks:=t }:=I.call (ch:=[]) Ti EC bare fun b z=>absurd z (by simp)
  exact J
 have tU:=fl;rw[gI] at tU;refine G7 (by rw[<-gI];exact I.ok.frames) hf tU fun h2 held AZ=>?_
 refine Ab held fun h3 Fx JA=>?_
 have I3:=after h3 Fx.st (AZ.trans JA);obtain⟨ob,vs,EG,EF,UE,UD⟩:=Fx.there;refine wpAny_handleBy_cons (codeAny_handlers_test (um (I3.iE a) hg hm ?_ hd)) (by intro q;cases q);have LT:PySem.W.Looks (model X.prog X.w) h3 (typeOf (.ref a)) (.ref C):=PySem.W.jQ.type ⟨ob,EG,EF⟩;refine(PySem.W.exm_one (c:=.ref C') I3.i4 LT UJ).at ?_;refine codeAny_handlers_suite_as ?_;refine Ab Fx fun h4 KI Tg=>?_
 have I4:=after h4 KI.st ((AZ.trans JA).trans Tg);obtain⟨JL,Tf,zc,zb,za,y9⟩:=KI.there;have I5:=I4.tell (a:=a) (o:=.ext (wj a C dd)) I hn hs ⟨⟨JL,Tf,zc,zb,za,y9⟩,⟨JL,zc⟩,fun h1 h2 ⟨o,v,e1,e2⟩ kk=>⟨o,v,kk o e1,e2⟩⟩;refine CS (v:=.ref a) I5 hN hi Bo rfl (fun s5 I6=>?_) Fb;have run:=st a pins s5 _ _ { nx:=fun cc H2=>D.nx (cc.set q none) H2,rt:=fun _ _=>False } (I6.iE a) Uq;refine bc run (fun f s6 z=>?_) fun _ _ z=>?_
 ·cases f with
  | next=>
   obtain⟨cc,H2,I7,z⟩:=z;have I8:=I7.uD I.ok;obtain⟨m,pU,jJ⟩:=I8.loc;have uY:(X.env.scope.kind==.class||(X.env.scope.kind==.module&&X.env.locals != X.env.globals))=false:=by rw[I.ok.kind];rfl
   refine wpAny_nameGoes_keeps UZ pU uY fun h' v wx tN=>?_
   exact k _ _ _ (I8.zz hN hi jJ wx tN) z
  | brk=>obtain⟨_,_,_,z⟩:=z;exact z.elim
  | cont=>obtain⟨_,_,_,z⟩:=z;exact z.elim
  | ret u=>obtain⟨_,_,_,_,_,z⟩:=z;exact z.elim
 ·rw[show(X.iE a).xe=X.xe from rfl,y0] at z;exact z.elim
end
end L2
namespace L2
open PySem PySem.Spec PyProof.Rows
end L2
namespace L2
open PySem PySem.Spec PyProof.Rows
structure sI (K:PySem.W.Frag) (mg:Str->Option Value) (cn qual fn:Str) (st:Stmt):Prop where
 ex:∃(C f Wa:Addr) (fd:FuncData),PySem.W.nsIn K mainGlobals cn=some (some (.ref C))/\PySem.W.findIn K (.ref C) "__init__"=some (some (.ref f))/\mg cn=some (.ref C)/\PySem.W.keepIn K (.ref C)=true/\mY K C [.type "ValueError",.type "Exception",.type "BaseException",.type "object"] "ValueError.__new__" (some f)=true/\PySem.W.typeIn K (.ref f)=some (.type "function")/\xa K "__init__" qual st f fd/\vd K C fn/\
  mg "WireError"=some (.ref Wa)/\PySem.W.readsIn K Wa (.type "type")=true/\PySem.W.specialIn K (.ref Wa) "__getattribute__"=some (some (.builtin "type.__getattribute__"))/\PySem.W.findCls K (.ref Wa) (.type "type") "__init__"=some (.val (.builtin "ValueError.__init__"))/\PySem.W.handedIn (.builtin "ValueError.__init__")=true
section
variable {P:Program} {w:World} {K:PySem.W.Frag} {mg:Str->Option Value} {base:Heap}
theorem Aj{cn qual tx fn p:Str}{st:Stmt}{kk}{p1 p2 p3 p4 p5 p6 p7 p8 p9 D3:Pos}(A:sI K mg cn qual fn st)(S:bI ["self",p] ["self",p] (bx st))
  (hb:cq st=[.Expr (.Call (.Attribute (.Name "WireError" p1) "__init__" p2) [.Name "self" p3,.Constant (.str tx) kk p4] [] p5) p6,.Assign [.Attribute (.Name "self" p7) fn p8] (.Name p p9) D3])
  (b:∀(kV doc pm:Value) (an:Option Addr) (cf ct:Value) (us:List Value),us.length=2->bindArgs (PySem.W.fnOf "__init__" qual (dX st) (cq st) (bx st) .none kV doc pm an cf ct) ⟨us,[]⟩=pure ((["self",p]:List Str).zip us))
  (v0:l8 (bx st) "self":=by first | exact Or.inl rfl | exact Or.inr (Or.inl rfl) | exact Or.inr (Or.inr rfl)) (v1:l8 (bx st) p:=by first | exact Or.inl rfl | exact Or.inr (Or.inl rfl) | exact Or.inr (Or.inr rfl)) (Fe:(p==("__debug__":Str))=false:=by decide) (hd2:(p==("__classdict__":Str))=false:=by decide)
  (hg:∀f cf A outer s H E,Gl (jl hZ P w K mg base ["self",p] qual (bx st) f cf A outer s H E).kN "WireError":=by intros;rfl)
  (ht:∀f cf A outer s H E,∃pl,eval (.Call (.Attribute (.Name "WireError" p1) "__init__" p2) [.Name "self" p3,.Constant (.str tx) kk p4] [] p5) (jl hZ P w K mg base ["self",p] qual (bx st) f cf A outer s H E).kN.env=(do
   let ov <-eval (.Name "WireError" p1) (jl hZ P w K mg base ["self",p] qual (bx st) f cf A outer s H E).kN.env
   standAt p2.atName
   let(f',first) <-holding [ov] (getMethod ov "__init__" pl)
   callWith p5 f' first (backTo p5 (starEach [.Name "self" p3,.Constant (.str tx) kk p4] (jl hZ P w K mg base ["self",p] qual (bx st) f cf A outer s H E).kN.env)) (backToKw p5 (keywordEach [] (jl hZ P w K mg base ["self",p] qual (bx st) f cf A outer s H E).kN.env))):=by intros;exact⟨_,rfl⟩):kA P w K mg base 1 cn fn:=by
 obtain⟨C,f,Wa,fd,h1,_,h2,h3,h4,h5,F,h6,h7,h8,h9,Vk,Vj⟩:=A.ex;exact⟨C,f,fd,["self",p],_,_,_,_,PySem.F.excBase_ValueError,h4,h1,h2,h3,h5,Mm (k:=0) F S hb PySem.F.excBase_ValueError h7 h8 h9 Vk Vj h4 h6 v0 v1 Fe hd2 (fun cf A outer s H E=>hg f cf A outer s H E) (fun cf A outer s H E=>ht f cf A outer s H E),F.binds b⟩
end
end L2
namespace Ts
open PySem PySem.W PyProof.Rows
noncomputable abbrev Kx:=Sum Int Str
noncomputable def uL:Kx->Kx->Bool
 | .inl i,.inl j=>decide (i<j)
 | .inl _,.inr _=>true
 | .inr _,.inl _=>false
 | .inr a,.inr b=>decide (a.cps.toList<b.cps.toList)
theorem pP:Ord uL:=by
 refine⟨fun a b c h1 h2=>?_,fun a=>?_,fun a b h=>?_⟩
 ·cases a<;>cases b<;>cases c<;>simp only[uL,decide_eq_true_eq,ay] at *
  ·omega
  ·exact List.lt_trans h1 h2
 ·cases a with
  | inl i=>simp[uL]
  | inr a=>simp only[uL,decide_eq_false_iff_not];exact List.lt_irrefl _
 ·cases a with
  | inl i=>
   cases b with
   | inl j=>
    have:i≠j:=fun z=>h (by rw[z])
    simp only[uL,decide_eq_true_eq];omega
   | inr b=>exact .inl rfl
  | inr a=>
   cases b with
   | inl j=>exact .inr rfl
   | inr b=>
    have h:a≠b:=fun z=>h (by rw[z])
    simp only[uL,decide_eq_true_eq];rcases Decidable.em (a.cps.toList<b.cps.toList) with z | z
    ·exact .inl z
    ·rcases Decidable.em (b.cps.toList<a.cps.toList) with y | y
     ·exact .inr y
     ·exact absurd (Ct (List.le_antisymm (List.not_lt.mp y) (List.not_lt.mp z))) h
noncomputable def jM:List Kx->List Kx->Bool
 | [],[]=>false
 | [],_::_=>true
 | _::_,[]=>false
 | a::r,b::t=>if a=b then jM r t else uL a b
theorem GR:∀a b c:List Kx,jM a b=true->jM b c=true->jM a c=true
 | [],[],c,h1,_=>by cases h1
 | _::_,[],c,h1,_=>by cases h1
 | [],_::_,[],_,h2=>by cases h2
 | [],_::_,_::_,_,_=>rfl
 | _::_,_::_,[],_,h2=>by cases h2
 | a::r,b::t,c::u,h1,h2=>by
  unfold jM at *;by_cases e1:a=b
  ·subst e1;rw[if_pos rfl] at h1;by_cases e2:a=c
   ·rw[if_pos e2] at h2 ⊢;exact GR r t u h1 h2
   ·rw[if_neg e2] at h2 ⊢;exact h2
  ·rw[if_neg e1] at h1;by_cases e2:b=c
   ·subst e2;rw[if_neg e1];exact h1
   ·rw[if_neg e2] at h2;have h3:=pP.tr _ _ _ h1 h2;rw[if_neg fun z=>by subst z;rw[pP.ir] at h3;cases h3];exact h3
theorem GQ:∀a:List Kx,jM a a=false
 | []=>rfl
 | a::r=>by unfold jM;rw[if_pos rfl];exact GQ r
theorem Hm:∀a b:List Kx,a≠b->jM a b=true\/jM b a=true
 | [],[],h=>absurd rfl h
 | [],_::_,_=>.inl rfl
 | _::_,[],_=>.inr rfl
 | a::r,b::t,h=>by
  unfold jM;by_cases e:a=b
  ·subst e;rw[if_pos rfl,if_pos rfl];exact Hm r t fun z=>h (by rw[z])
  ·rw[if_neg e,if_neg (Ne.symm e)];exact pP.JB _ _ e
theorem nQ:Ord jM:=⟨GR,GQ,Hm⟩
noncomputable def kv:Value->Kx
 | .str x _=>.inr x
 | .int i _=>.inl i
 | _=>.inl 0
def qR:List Bool->List Value->Prop
 | [],[]=>True
 | true::s,.str _ _::r=>qR s r
 | false::s,.int _ _::r=>qR s r
 | _,_=>False
theorem qR.len:∀{sh:List Bool} {xs:List Value},qR sh xs->xs.length=sh.length
 | [],[],_=>rfl
 | [],_::_,h=>h.elim
 | b::_,[],h=>by cases b<;>exact h.elim
 | b::sh,x::xs,h=>by
  cases b<;>cases x<;>first | exact h.elim | (rw[aB,aB];exact congrArg (·+1) (qR.len (sh:=sh) (xs:=xs) h))
section
variable {prog:Program} {w:World} {A:Around} {E:Value->Shared->Prop} {s:Shared}
theorem Of{b:Bool}{Q:Bool->Shared->Prop}:∀{sh:List Bool} {xs ys:List Value} (i:Nat),qR sh xs->qR sh ys->Q (jM (xs.map kv) (ys.map kv)) s->KatLex prog w A b false Q (xs.zip ys) i s:=by
 intro sh;induction sh with
 | nil=>
  intro xs ys i h1 h2 q;cases xs with
  | nil=>cases ys with
   | nil=>exact kat_nil q
   | cons _ _=>exact h2.elim
  | cons _ _=>exact h1.elim
 | cons c sh ih=>
  intro xs ys i h1 h2 q;cases xs with
  | nil=>cases c<;>exact h1.elim
  | cons x xs=>
   cases ys with
   | nil=>cases c<;>exact h2.elim
   | cons y ys=>
    rw[au,au] at q;unfold jM at q;cases c with
    | true=>
     cases x<;>first | exact h1.elim | skip
     cases y<;>first | exact h2.elim | skip
     rename_i x t y u;refine kat_cons (wpAny_eqBool_str ?_);by_cases e:x=y
     ·rw[decide_eq_true e];rw[if_pos (by rw[e];rfl)] at q;exact kat_yes (ih (i+1) h1 h2 q)
     ·rw[aL e];rw[if_neg (fun z=>e (by injection z))] at q;refine kat_no ?_;cases (b&&i==0) with
      | true=>exact oneLt_str q
      | false=>exact kat_one _ _ (PyProof.Rows.lt_str q)
    | false=>
     cases x<;>first | exact h1.elim | skip
     cases y<;>first | exact h2.elim | skip
     rename_i x t y u;refine kat_cons (wpAny_eqBool_int ?_);by_cases e:x=y
     ·simp only[beq_iff_eq.mpr e];rw[if_pos (by rw[e];rfl)] at q;exact kat_yes (ih (i+1) h1 h2 q)
     ·simp only[beq_eq_false_iff_ne.mpr e];rw[if_neg (fun z=>e (by injection z))] at q;refine kat_no ?_;cases (b&&i==0) with
      | true=>exact oneLt_int q
      | false=>exact kat_one _ _ (PyProof.Rows.lt_int q)
noncomputable def ji(h:Heap)(v:Value):List Kx:=match v with
 | .ref a=>match h.get? a with
  | some o=>match o.data with
   | .seq xs _=>xs.toList.map kv
   | _=>[]
  | none=>[]
 | _=>[]
def nT(sh:List Bool)(h:Heap)(v:Value):Prop:=∃a o xs n,v=.ref a/\h.get? a=some o/\o.cls=.type "tuple"/\o.data=.seq xs n/\qR sh xs.toList/\ji h v=xs.toList.map kv
noncomputable def JD(b:Bool):Value:=if b then .type "str" else .type "int"
theorem Jr{c:Bool}{sh:List Bool}{h h':Heap}(k:∀b o,h.get? b=some o->h'.get? b=some o):∀{its:List Value},(∀v∈its,nT (c::sh) h v)->∃fs,KatTups h' its fs/\fs.length=its.length/\∀v∈fs,qR [c] [v]
 | [],_=>⟨[],.nil,rfl,fun v hv=>by cases hv⟩
 | v::r,hv=>by
  obtain⟨fs,h1,h2,h3⟩:=Jr k (its:=r) fun x hx=>hv x (aA _ hx)
  obtain⟨a,o,xs,n,rfl,ho,hc,hd,hk,_⟩:=hv v bj;obtain⟨f,rs,e⟩:∃f rs,xs.toList=f::rs:=by
   cases h:xs.toList with
   | nil=>rw[h] at hk;cases c<;>exact hk.elim
   | cons f rs=>exact⟨f,rs,rfl⟩
  rw[e] at hk;refine⟨_,KatTups.cons (f:=f) (k _ _ ho) hc hd (by rw[<-Array.getElem?_toList,e];rfl) h1,by simp[h2],fun x hx=>?_⟩;rcases ah.mp hx with rfl | hx
  ·cases c<;>cases x<;>first | exact hk.elim | trivial
  ·exact h3 x hx
theorem qk{c:Bool}{sh:List Bool}{h h':Heap}{its:List Value}(k:∀b o,h.get? b=some o->h'.get? b=some o)(hv:∀v∈its,nT (c::sh) h v):Ask prog w A E its (fun x=>lW jM (its.map (ji h)) (ji h x.1)) { s with heap:=h' }:=by
 refine⟨fun h2=>⟨tuples' (JD c != Value.type "tuple"),fun Q' q=>?_,⟨fun x y Q ox oy q=>?_⟩⟩⟩
 ·obtain⟨fs,h1,Fu,h3⟩:=Jr k hv;refine kat_kind (s:={ s with heap:=h' }) (T:=JD c) h1 (by omega) (fun v hv=>?_) (by cases c<;>decide +kernel) q;have:=h3 v hv;cases c<;>cases v<;>first | exact this.elim | exact Looks.of_pure rfl
 ·have mx:=Ir ox;have my:=Ir oy;obtain⟨a,oa,xs,n,ea,ga,ca,da,ka,va⟩:=hv _ mx;obtain⟨b,ob,ys,m,eb,gb,cb,db,kb,vb⟩:=hv _ my;rw[<-GU nQ (aI mx),va,vb] at q;rw[ea,eb];refine kat_lt (k _ _ ga) da (k _ _ gb) db ?_;have:decide (xs.size<ys.size)=false:=by
   have h1:=ka.len;have h2:=kb.len;rw[aG] at h1 h2;rw[decide_eq_false_iff_not];omega
  rw[this];exact Of 0 ka kb q
end
end Ts
namespace Ts
open PySem PySem.W PyProof.Rows
end Ts
namespace L2
open PySem PySem.Spec PyProof.Rows
noncomputable abbrev EK:=List Key
noncomputable def tW(p:EK):D:=.tup (p.map BP)
noncomputable def A5(p:EK):List Bool:=p.map Sum.isRight
section
variable {X:Cx}
def Hl(X:Cx)(kf:Heap->Value->EK)(C:Hp->List (V×EK)->Prop):Prop:=∀{pins:List (Addr×Obj)} {s:Shared} {σ:St} {H:Hp} (I:Inv X pins σ H s) {ps:List (V×EK)} {its:List Value},C H ps->Vals (ps.map (·.1)) its->
 (∀z∈ps.zip its,kf s.heap z.2=z.1.2)/\∀h',(∀b o,s.heap.get? b=some o->h'.get? b=some o)->Ts.Ask X.prog X.w X.A.in1.in1 X.xe its (fun x=>Ts.lW Ts.jM (its.map (kf s.heap)) (kf s.heap x.1)) { s with heap:=h' }
def GP(K:PySem.W.Frag)(C:Hp->List (V×EK)->Prop):List V->Hp->VK->Prop:=fun xs H Q=>∃(p:Addr) (ps:List (V×EK)),xs=[.ref p]/\gc K H p (ps.map (·.1))/\C H ps/\(2<=ps.length->Ts.jO ps.length)/\
  ∀j5:List (V×EK),j5.Perm ps->j5.Pairwise (fun x y=>Ts.jM y.2 x.2=false)->∀l,H l=none->Q (.ref l) (upd H l (.lst (j5.map (·.1))))
theorem QV{kf:Heap->Value->EK}{C:Hp->List (V×EK)->Prop}(hC:Hl X kf C):c8 X (.builtin "sorted") (GP X.K C):=by
 intro pins s σ H xs us Q I r h;obtain⟨p,ps,rfl,hq,hk,hr,q⟩:=h;obtain⟨u,rfl,ru⟩:=lQ r;cases ru;obtain⟨its,rv,pl,hz⟩:=I.list hq;obtain⟨kk,ask⟩:=hC I hk rv;have hl:ps.length=its.length:=by rw[<-rv.length,ae]
 obtain⟨LL,eL⟩:∃LL,LL=ps.zip its:=⟨_,rfl⟩
 have e1:ps=LL.map (·.1):=by rw[eL];exact(List.map_fst_zip (by omega)).symm
 have e2:its=LL.map (·.2):=by rw[eL];exact(List.map_snd_zip (by omega)).symm
 have rel:∀z∈LL,RelV z.1.1 z.2:=fun z hz=>by
  obtain⟨i,hi⟩:=List.getElem?_of_mem hz;have h1:(ps.map (·.1))[i]?=some z.1.1:=by rw[e1];simp[hi]
  obtain⟨v',uQ,rx⟩:=rv.get h1;have h2:its[i]?=some z.2:=by rw[e2];simp[hi]
  rw[h2] at uQ;cases uQ;exact rx
 rw[<-eL] at kk;refine Ts.lU (rk:=fun x=>Ts.lW Ts.jM (its.map (kf s.heap)) (kf s.heap x.1)) pl.isList (by rw[<-hl,<-ae (f:=(·.1))];exact hz) (fun h2=>by rw[<-hl];exact hr (by omega)) ask fun fv hp hs=>?_
 have ep:(PyProof.Rows.pairsOf its).toList=LL.map fun z=>((z.2,z.2):Keyed):=by
  unfold PyProof.Rows.pairsOf;rw[e2];simp only[List.zip_toArray];clear eL e1 e2 rel kk hp hs;induction LL with
  | nil=>rfl
  | cons a r ih=>simp at ih ⊢;exact ih
 obtain⟨L',h1,h2⟩:=IU (hp.trans (List.Perm.of_eq ep)) rfl;have uC:∀z∈L',RelV z.1.1 z.2:=fun z hz=>rel z (h1.subset hz)
 have out:((arrOf fv).map (·.2)).toList=L'.map (·.2):=by
  rw[Array.toList_map,h2,br];rfl
 obtain⟨en,he⟩:=sortedAll_at s.heap its ((arrOf fv).map (·.2));have hf:H (s.heap.objs.size+1)=none:=I.cB.fresh (bp _)
 have q':=q (L'.map (·.1)) (by rw[e1];exact h1.map _) (by
  rw[List.pairwise_map];unfold Ts.tX at hs;rw[h2,List.pairwise_map] at hs;refine hs.imp_of_mem fun{a b} ha hb kP=>?_
  have ta:=kk a (h1.subset ha);have tb:=kk b (h1.subset hb);rw[<-ta,<-tb];have ma:kf s.heap a.2∈its.map (kf s.heap):=aI (by rw[e2];exact aI (h1.subset ha));have mb:kf s.heap b.2∈its.map (kf s.heap):=aI (by rw[e2];exact aI (h1.subset hb))
  exact Ts.yK Ts.nQ ma mb (by simp only at kP;omega)) _ hf
 rw[br] at q';refine⟨.ref (s.heap.objs.size+1),_,I.laid (a:=s.heap.objs.size+1) (o:=.lst (L'.map ((·.1)∘(·.1)))) (t':=s.toks) (fun b o e=>sortedAll_old e) (bp _) ?_,rfl,q'⟩;have el:LL.length=its.length:=by rw[e2,ae]
 refine⟨by rw[ae,h1.length_eq,el,<-hl,<-ae (f:=(·.1))];exact hz,((arrOf fv).map (·.2)).toList,en,?_,?_⟩
 ·rw[out];exact Cv uC
 ·rw[Array.toArray_toList];exact he
theorem Ip:∀{p:EK} {its:List Value},Vals (p.map kV) its->Ts.qR (A5 p) its/\its.map Ts.kv=p
 | [],[],_=>⟨trivial,rfl⟩
 | [],_::_,r=>by cases r
 | k::p,_,r=>by
  cases r with
  | cons a b=>
   obtain⟨h1,h2⟩:=Ip b;cases k with
   | inl i=>
    obtain⟨t,rfl⟩:=a;exact⟨h1,by rw[au,h2];rfl⟩
   | inr x=>
    obtain⟨t,rfl⟩:=a;exact⟨h1,by rw[au,h2];rfl⟩
theorem Mi{pins:List (Addr×Obj)}{s:Shared}{σ:St}{H:Hp}(I:Inv X pins σ H s){v:V}{u:Value}{e:EK}(h:∃b,v=.ref b/\fH X.K H b (e.map kV))(r:RelV v u):Ts.nT (A5 e) s.heap u/\Ts.ji s.heap u=e:=by
 obtain⟨b,rfl,sq⟩:=h;cases r;obtain⟨i1,v1,p1,_⟩:=I.tuple sq;obtain⟨o1,g1,c1,n1,d1⟩:=p1;obtain⟨h1,h2⟩:=Ip v1;have e':Ts.ji s.heap (.ref b)=e:=by
  unfold Ts.ji;simp only[g1,d1];simpa using h2
 exact⟨⟨b,o1,_,n1,rfl,g1,c1,d1,by simpa using h1,by rw[e'];simpa using h2.symm⟩,e'⟩
def KP(K:PySem.W.Frag)(c:Bool)(sh:List Bool):Hp->List (V×EK)->Prop:=fun H ps=>∀q∈ps,A5 q.2=c::sh/\∃b,q.1=.ref b/\fH K H b (q.2.map kV)
theorem NN{c:Bool}{sh:List Bool}:Hl X Ts.ji (KP X.K c sh):=fun{pins s σ H} I {ps its} hc r=>by
 have hl:ps.length=its.length:=by rw[<-r.length,ae]
 have at_:∀z∈ps.zip its,Ts.nT (c::sh) s.heap z.2/\Ts.ji s.heap z.2=z.1.2:=fun z hz=>by
  obtain⟨h1,h2⟩:=hc _ (List.of_mem_zip hz).1;rw[<-h1];exact Mi I h2 (HQ r z hz)
 refine⟨fun z hz=>(at_ z hz).2,fun h' k=>Ts.qk (c:=c) (sh:=sh) k fun v hv=>?_⟩;obtain⟨a,ha⟩:=Jt hl v hv;exact(at_ _ ha).1
def Cb(C:Nat->Prop):eX:=fun ds Q=>∃(c:Bool) (sh:List Bool) (ps:List EK),ds=[.lst (ps.map tW)]/\(∀p∈ps,A5 p=c::sh)/\C ps.length/\∀j5:List EK,j5.Perm ps->j5.Pairwise (fun x y=>Ts.jM y x=false)->Q (.ow (j5.map tW))
theorem HM{K:PySem.W.Frag}{G:Hp}:∀{xs:List V} {p:EK},bB K G xs (p.map BP)->xs=p.map kV
 | [],[],_=>rfl
 | v::xs,k::p,r=>by
  rw[au] at r;simp only[bB] at r;rw[au,<-HM r.2];have r1:=r.1;cases k<;>(simp only[BP,Rep] at r1;rw[r1];rfl)
 | [],_::_,r=>by rw[au] at r;simp only[bB] at r
 | _::_,[],r=>by rw[List.map_nil] at r;simp only[bB] at r
theorem Ng{K:PySem.W.Frag}{G:Hp}{v:V}{p:EK}(r:Rep K G v (tW p)):∃b,v=.ref b/\G b=some (.tup (p.map kV)):=by
 unfold tW at r;simp only[Rep] at r;obtain⟨a,ys,rfl,sq,ry⟩:=r;exact⟨a,rfl,by rw[<-HM ry];exact sq⟩
theorem HL{K:PySem.W.Frag}{G:Hp}:∀{xs:List V} {ps:List EK},bB K G xs (ps.map tW)->xs.length=ps.length/\∀q∈xs.zip ps,Rep K G q.1 (tW q.2)
 | [],[],_=>⟨rfl,fun q hq=>by cases hq⟩
 | v::xs,p::ps,r=>by
  rw[au] at r;simp only[bB] at r;obtain⟨h1,h2⟩:=HL r.2;refine⟨by simp[h1],fun q hq=>?_⟩;rw[List.zip_cons_cons] at hq;rcases ah.mp hq with rfl | hq
  ·exact r.1
  ·exact h2 q hq
 | [],_::_,r=>by rw[au] at r;simp only[bB] at r
 | _::_,[],r=>by rw[List.map_nil] at r;simp only[bB] at r
theorem NM{C:Nat->Prop}(hC:∀n,2<=n->C n->Ts.jO n)(_:X.calm=true):pv X (.builtin "sorted") (Cb C):=by
 refine⟨fun xs H Q=>∃c sh,GP X.K (KP X.K c sh) xs H Q,fun pins s σ H xs us Q I r bV=>by obtain⟨c,sh,h⟩:=bV;exact QV NN pins s σ H xs us Q I r h,fun G H vs ds Q P s rs h k=>?_⟩;obtain⟨c,sh,ps,rfl,Ex,hl,q⟩:=h;obtain⟨v,rfl,rv⟩:=kH rs;simp only[Rep] at rv;obtain⟨a,xs,rfl,h1,h2⟩:=rv;obtain⟨h3,hz⟩:=HL h2;have e1:(xs.zip ps).map (·.1)=xs:=List.map_fst_zip (by omega);have e2:(xs.zip ps).map (·.2)=ps:=List.map_snd_zip (by omega);have el:(xs.zip ps).length=ps.length:=by rw[List.length_zip];omega
 refine⟨c,sh,a,xs.zip ps,rfl,by rw[e1];exact(s.gH h1).sq,fun z hq=>⟨Ex _ (List.of_mem_zip hq).2,?_⟩,fun h=>by rw[el] at h ⊢;exact hC _ h hl,fun j5 p1 p2=>?_⟩
 ·obtain⟨b,e,sq⟩:=Ng (hz z hq);exact⟨b,e,s.oh (fH.of sq)⟩
 ·refine tf s (ds:=(j5.map (·.2)).map tW) ?_ (q (j5.map (·.2)) ((p1.map _).trans (List.Perm.of_eq e2)) (by rw[List.pairwise_map];exact p2)) k;rw[br];exact Cu fun q hq=>hz q (p1.subset hq)
end
end L2
namespace L2
open PySem PySem.Spec PyProof.Rows
end L2
namespace L2
open PySem PySem.Spec PyProof.Rows
end L2
namespace PySem
open Sem (wp)
end PySem
namespace L2
open PySem PySem.Spec PyProof.Rows
end L2
namespace L2
open PySem PySem.Spec PyProof.Rows
end L2
namespace L2
open PySem PySem.Spec PyProof.Rows
end L2
namespace L2
open PySem PySem.Spec PyProof.Rows
end L2
namespace L2
open PySem PySem.Spec PyProof.Rows
end L2
namespace L2
open PySem PySem.Spec PyProof.Rows
end L2
namespace L2
open PySem PySem.Spec PyProof.Rows
end L2
namespace L2
open PySem PySem.Spec PyProof.Rows
end L2
namespace L2
open PySem PySem.Spec PyProof.Rows
end L2
namespace L2
open PySem PySem.Spec PyProof.Rows
end L2
namespace L2
open PySem PySem.Spec PyProof.Rows
end L2
namespace L2
open PySem PySem.Spec PyProof.Rows
end L2
namespace L2
open PySem PySem.Spec PyProof.Rows PySem.SeqAt
section
variable {X:Cx} {e:Expr} {te:TD}
def zU:O2:=fun d e Q=>match d,e with
 | .bl b,.bl c=>Q (.fz (.bl (b != c)))
 | _,_=>False
theorem Nf:jP X (compareOp .IsNot) zU:=by
 refine⟨fun x y H Q=>∃b c,x=.bl b/\y=.bl c/\Q (.bl (b != c)) H,fun pins s σ H x y v u Q I rx ry h=>?_,fun G H x y d e Q P s rx ry h k=>?_⟩
 ·obtain⟨b,c,rfl,rfl,q⟩:=h;cases (show v=Value.bool b from rx);cases (show u=Value.bool c from ry);exact isnot_bool ⟨.bl _,H,I,rfl,q⟩
 ·unfold zU at h;split at h
  ·simp only[Rep] at rx ry;exact⟨_,_,rx,ry,k _ _ _ G (.refl s) (fj (jy _ _ _)) h⟩
  ·exact h.elim
end
end L2
namespace L2
open PySem PySem.Spec PyProof.Rows
noncomputable abbrev kz:=List (List D)->List D->(D->List (List D)->Prop)->Prop
def BJ(K:PySem.W.Frag)(G H H0:Hp)(a:Addr)(o:OV):Prop:=∃fp,(a::fp).Nodup/\gJ K G H a fp o/\∀q∈a::fp,G q=none/\H0 q=none
def t8(K:PySem.W.Frag)(n:Nat)(t:kz):Sp:=fun vs H Q _=>∃G a us fp cg ds Qr,bL G H/\vs=.ref a::us/\(a::fp).Nodup/\gJ K G H a fp (.ll cg)/\(∀q∈a::fp,G q=none)/\bB K G us ds/\ds.length=n/\t cg ds Qr/\
 ∀v H' d oB G',Ext G (jX H (a::fp)) G' H'->Rep K G' v d->BJ K G' H' (jX H (a::fp)) a (.ll oB)->Qr d oB->Q v H'
structure cH (P:Program) (w:World) (K:PySem.W.Frag) (mg:Str->Option Value) (base:Heap) (k:Nat) (x:Str) (n:Nat) (t:kz):Prop where
 ex:∃(f:Addr) (fd:FuncData) (ps:List Str),fW P w K mg base hZ k f fd ps (t8 K n t)/\mg x=some (.ref f)/\PySem.W.keepIn K (.ref f)=true/\Binds K fd ps []
theorem cF.tK{K:PySem.W.Frag}{G0 H0 G H:Hp}{ρ:Ev}{σ:St}{i:Nat}{o:OV}(E:cF K G0 H0 ρ σ G H)(hg:gt ρ i=.ov o):∃a fp,σ[i]?=some (some (.ref a))/\(a::fp).Nodup/\gJ K G H a fp o/\(∀q∈a::fp,G q=none)/\
  ∀G2 H2 o',Ext G (jX H (a::fp)) G2 H2->BJ K G2 H2 (jX H (a::fp)) a o'->cF K G0 H0 (ρ.set i (.ov o')) σ G2 H2:=by
 obtain⟨own,o1,o2⟩:=E.on;obtain⟨a,fp,b1,b2,b3,b4⟩:=o2 i o hg;refine⟨a,fp,b1,b2,b3,fun q hq=>(b4 q hq).1,fun G2 H2 o' x bV=>?_⟩;obtain⟨lJ,c1,c2,c3⟩:=bV;have eR:i<ρ.length:=vq hg (by simp);have gs:∀j s,gt (ρ.set i (.ov o')) j=s->(i=j/\s=.ov o')\/(i≠j/\gt ρ j=s):=fun j s e=>by
  rw[rC] at e;by_cases h:i=j
  ·subst h;rw[if_pos ⟨rfl,eR⟩] at e;exact .inl ⟨rfl,e.symm⟩
  ·rw[if_neg (fun z=>h z.1)] at e;exact .inr ⟨h,e⟩
 have out:∀b,b∉a::fp->jX H (a::fp) b=H b:=fun b hb=>if_neg hb
 have kp:∀b u,b∉a::fp->H b=some u->H2 b=some u:=fun b u hb e=>x.h b u (by rw[out b hb];exact e)
 have kn:∀b,b∉a::fp->H b≠none->G b=none->G2 b=none:=fun b hb e g=>x.n b g (by rw[out b hb];exact e)
 have nf:∀b,b∉a::fp->H b≠none->b∉a::lJ:=fun b hb e z=>e (by rw[<-out b hb];exact(c3 b z).2)
 have h0:∀b u,H0 b=some u->b∉a::fp:=fun b u e z=>by rw[(b4 b z).2.1] at e;cases e
 refine⟨⟨E.e.g.trans x.g,fun b u e=>kp b u (h0 b u e) (E.e.h b u e),x.s,fun q q1 q2=>?_⟩,by simp[E.len],fun j d h=>?_,fun j es h=>?_,fun j k es fs lY a1 a2=>?_,fun q=>if q∈a::lJ then some i else own q,fun j es p' h hp=>?_,fun j D5 h=>?_⟩
 ·obtain⟨u,e⟩:=Option.ne_none_iff_exists'.mp q2;exact kn q (h0 q u e) (by rw[E.e.h q u e];exact nofun) (E.e.n q q1 q2)
 ·rcases gs j _ h with⟨_,e2⟩ | ⟨e,e2⟩
  ·cases e2
  ·obtain⟨u,u1,u2⟩:=E.fz j d e2;exact⟨u,u1,u2.mono x.g⟩
 ·rcases gs j _ h with⟨_,e2⟩ | ⟨e,e2⟩
  ·cases e2
  ·obtain⟨p',xs,d1,d2,d3,d4,d5⟩:=E.ow j es e2;have hb:p'∉a::fp:=fun z=>by
    have z1:=(b4 p' z).2.2;rw[o1 j es p' e2 d1] at z1;injection z1 with z1
    exact e z1.symm
   exact⟨p',xs,d1,kp p' _ hb d2,kn p' hb (by rw[d2];exact nofun) d3,d4,d5.mono x.g⟩
 ·rcases gs j _ a1 with⟨_,e2⟩ | ⟨e,e2⟩
  ·cases e2
  ·rcases gs k _ a2 with⟨_,e4⟩ | ⟨e3,e4⟩
   ·cases e4
   ·exact E.dj j k es fs lY e2 e4
 ·rcases gs j _ h with⟨_,e2⟩ | ⟨e,e2⟩
  ·cases e2
  ·obtain⟨p2,xs,d1,d2,d3,d4,d5⟩:=E.ow j es e2;rw[hp] at d1;cases d1;have w:=o1 j es p' e2 hp;have hb:p'∉a::fp:=fun z=>by
    have z1:=(b4 p' z).2.2;rw[w] at z1;injection z1 with z1
    exact e z1.symm
   show(if p'∈a::lJ then some i else own p')=some j;rw[if_neg (nf p' hb (by rw[d2];exact nofun))];exact w
 ·rcases gs j _ h with⟨e,e2⟩ | ⟨e,e2⟩
  ·subst e;cases e2;refine⟨a,lJ,b1,c1,c2,fun q hq=>⟨(c3 q hq).1,?_,if_pos hq⟩⟩;rcases hz:H0 q with _ | u
   ·rfl
   ·have:=(c3 q hq).2;rw[out q (h0 q u hz),E.e.h q u hz] at this;cases this
  ·obtain⟨p',f2,e1,e3,e4,e5⟩:=o2 j D5 e2;have nb:∀q∈p'::f2,q∉a::fp:=fun q hq z=>by
    have z1:=(b4 q z).2.2;rw[(e5 q hq).2.2] at z1;injection z1 with z1
    exact e z1.symm
   refine⟨p',f2,e1,e3,e4.mono x.g fun q hq u z=>kp q u (nb q hq) z,fun q hq=>⟨kn q (nb q hq) (e4.here q hq) (e5 q hq).1,(e5 q hq).2.1,?_⟩⟩;show(if q∈a::lJ then some i else own q)=some j;rw[if_neg (nf q (nb q hq) (e4.here q hq))];exact(e5 q hq).2.2
noncomputable def uv(N:List Str)(a:Addr)(cg:List (List D))(ds:List D):Ev:=(lS N (.non::ds)).set 0 (.ov (.li a cg))
theorem Oe{K:PySem.W.Frag}{G H:Hp}{N:List Str}{a:Addr}{fp:List Addr}{cg:List (List D)}{us:List V}{ds:List D}(s:bL G H)(nd:(a::fp).Nodup)(ow:gJ K G H a fp (.ll cg))(hn:∀q∈a::fp,G q=none)(r:bB K G us ds) :
  cF K G (jX H (a::fp)) (uv N a cg ds) (j3 N (.ref a::us)) G H:=by
 have s1:bL G (jX H (a::fp)):=fun b u e=>by
  have hb:b∉a::fp:=fun z=>by rw[hn b z] at e;cases e
  unfold jX;rw[if_neg hb];exact s b u e
 have k:=Az (K:=K) (N:=N) (vs:=.non::us) (ds:=.non::ds) s1 (bB.cons (Ao _ _) r);have lh:bL (jX H (a::fp)) H:=fun b u e=>by
  unfold jX at e;split at e
  ·cases e
  ·exact e
 have x:Ext G (jX H (a::fp)) G H:=⟨bL.refl _,lh,s,fun q h _=>h⟩
 have rr:de K G H (jX H (a::fp)) (.ref a) (.ov (.li a cg)):=⟨a,fp,rfl,nd,⟨rfl,ow⟩,fun q hq=>⟨if_pos hq,hn q hq⟩⟩
 exact k.put (i:=0) x rr
def zJ(X:Cx)(c:Hp->Hp->VK->Prop)(st:Stmt)(t:TX):Prop:=∃tt,PS X st tt/\∀(ρ:Ev) (σ:St) (G0 H0 G H:Hp) (D:DE) (E:Ends),cF X.K G0 H0 ρ σ G H->t D ρ->Goes X.K G0 H0 G D E->c G0 H0 E.rt->tt E σ H
def qV(X:Cx)(c:Hp->Hp->VK->Prop)(st:List Stmt)(t:TX):Prop:=∃tt,la X st tt/\∀(ρ:Ev) (σ:St) (G0 H0 G H:Hp) (D:DE) (E:Ends),cF X.K G0 H0 ρ σ G H->t D ρ->Goes X.K G0 H0 G D E->c G0 H0 E.rt->tt E σ H
def Wr(K:PySem.W.Frag)(a:Addr)(Qr:D->List (List D)->Prop)(G0 H0:Hp)(rt:VK):Prop:=∀v H' d cg G',Ext G0 H0 G' H'->Rep K G' v d->BJ K G' H' H0 a (.ll cg)->Qr d cg->rt v H'
section
variable {X:Cx} {c:Hp->Hp->VK->Prop} {pos:Pos} {e i':Expr} {es:List Expr} {te ti:TD} {ts:iI}
theorem mI{st:Stmt}{t:TX}(h:PX X st t):zJ X c st t:=let⟨tt,p,q⟩:=h;⟨tt,p,fun ρ σ G0 H0 G H D E k h g _=>q ρ σ G0 H0 G H D E k h g⟩
theorem NL{jo:List Stmt}{t:TX}(h:md X jo t):qV X c jo t:=let⟨tt,p,q⟩:=h;⟨tt,p,fun ρ σ G0 H0 G H D E k h g _=>q ρ σ G0 H0 G H D E k h g⟩
theorem lT{st:Stmt}{jo:List Stmt}{t u:TX}(h1:zJ X c st t)(h2:qV X c jo u):qV X c (st::jo) (b8 t u):=by
 obtain⟨t1,p1,q1⟩:=h1;obtain⟨t2,p2,q2⟩:=h2;exact⟨_,xN p1 p2,fun ρ σ G0 H0 G H D E k h g hw=>q1 ρ σ G0 H0 G H _ _ k h ⟨fun ρ' cc G' H' s' k' h'=>q2 ρ' cc G0 H0 G' H' D E k' h' (g.shift s') hw,g.rt,g.bk,g.ct⟩ hw⟩
theorem vM{st:Stmt}{t:TX}(h1:zJ X c st t):qV X c [st] t:=let⟨t1,p1,q1⟩:=h1;⟨_,Ar p1,q1⟩
theorem Od(i:Nat){jo:List Stmt}{t:TX}(h:qV X c jo t):qV X c jo (fun D ρ=>t D (jL i ρ)):=by
 obtain⟨t1,p1,q1⟩:=h;refine⟨_,p1,fun ρ σ G0 H0 G H D E k h g hw=>?_⟩;obtain⟨G',k',s'⟩:=k.freeze i;exact q1 _ σ G0 H0 G' H D E k' h (g.shift s') hw
theorem Nd{cd:Expr}{a b:List Stmt}{tc:iP}{t u:TX}(hc:PB X cd tc)(ha:qV X c a t)(hb:qV X c b u):zJ X c (.If cd a b pos) (eO tc t u):=by
 obtain⟨t0,p0,q0⟩:=hc;obtain⟨t1,p1,q1⟩:=ha;obtain⟨t2,p2,q2⟩:=hb;refine⟨_,B2 p0 p1 p2,fun ρ σ G0 H0 G H D E k h g hw=>q0 ρ σ G0 H0 G H _ _ k h fun b H' G' x hq=>?_⟩;cases b with
 | true=>
  rw[if_pos rfl] at hq ⊢;exact q1 ρ σ G0 H0 G' H' D E (k.ext x) hq (g.shift x.g) hw
 | false=>
  rw[if_neg az] at hq ⊢;exact q2 ρ σ G0 H0 G' H' D E (k.ext x) hq (g.shift x.g) hw
def sV(i:Nat)(a:Addr)(Qr:D->List (List D)->Prop)(te:TD):TX:=fun _ ρ=>te ρ fun r=>match gt ρ i with
 | .ov (.li b cg)=>b=a/\Qr r.val cg
 | _=>False
theorem vK(i:Nat){a:Addr}{Qr:D->List (List D)->Prop}(h:PD X e te):zJ X (Wr X.K a Qr) (.Return (some e) pos) (sV i a Qr te):=by
 obtain⟨t,p,q⟩:=h;refine⟨_,Ae p,fun ρ σ G0 H0 G H D E k h g hw=>q ρ σ G0 H0 G H _ _ k h fun v H' r G' x rr hq=>?_⟩;obtain⟨G2,x2,rv,_⟩:=rr.freeze x;split at hq
 ·rename_i b cg hg;obtain⟨rfl,hq⟩:=hq;have k2:=k.ext x2;obtain⟨own,o1,o2⟩:=k2.on;obtain⟨p',fp,b1,b2,⟨rfl,b3⟩,b4⟩:=o2 i _ hg;exact hw v H' _ cg G2 k2.e rv ⟨fp,b2,b3,fun q hq=>⟨(b4 q hq).1,(b4 q hq).2.1⟩⟩ hq
 ·exact hq.elim
def oU(i:Nat)(ti te:TD):TX:=fun D ρ=>match gt ρ i with
 | .ov (.li b cg)=>te ρ fun r=>match r with
  | .ow es=>ti ρ fun rk=>match rk.val with
   | .int k=>∃j,rS cg.length k=some j/\D.nx (ρ.set i (.ov (.li b (cg.set j es))))
   | _=>False
  | _=>False
 | _=>False
theorem rH(i:Nat){x:Str}{p1 p2:Pos}(hi:PD X i' ti)(he:PD X e te)(hN:X.N[i]?=some x:=by rfl)(hv:l8 X.env.scope x:=by first | exact Or.inl rfl | exact Or.inr (Or.inl rfl) | exact Or.inr (Or.inr rfl))(hd:(x==("__debug__":Str))=false:=by decide)(iO:(x==("__classdict__":Str))=false:=by decide)
  (ha:∀v,assign (.Subscript (.Name x p1) i' p2) X.env v=(do
   let ov <-holding [v] (eval (.Name x p1) X.env)
   let iv <-holding [v,ov] (eval i' X.env)
   standAt p2
   holding [v,ov,iv] (setItem ov iv v)
   release [v,ov,iv] []):=by intro _;rfl)
  (hs:swapsWithSole [.Subscript (.Name x p1) i' p2] e pos.line X.env=pure false:=by rfl) (hw:swappedStores [.Subscript (.Name x p1) i' p2] e X.env=pure none:=by rfl)
  (h1:(assignEach [.Subscript (.Name x p1) i' p2] X.env).map (·.2)=[assign (.Subscript (.Name x p1) i' p2) X.env]:=by rfl) :
  PX X (.Assign [.Subscript (.Name x p1) i' p2] e pos) (oU i ti te):=by
 obtain⟨t,p,q⟩:=he;obtain⟨t2,TV,q2⟩:=hi;refine⟨_,Gy p (MC (oR hN hv hd iO) TV Oz ha) hs hw h1,fun ρ σ G0 H0 G H D E k h g=>?_⟩;unfold oU at h;split at h
 ·rename_i b cg hg;obtain⟨own,o1,o2⟩:=k.on;obtain⟨a,fp,b1,b2,⟨rfl,ha,hr⟩,b4⟩:=o2 i _ hg;refine q ρ σ G0 H0 G H _ _ k h fun v H' r G' x1 rr hq=>?_
  split at hq
  ·rename_i es;obtain⟨qn,xs,rfl,c1,c2,c3,c4⟩:=rr;refine⟨_,b1,q2 ρ σ G0 H0 G' H' _ _ (k.ext x1) hq fun u H3 rk G3 x3 D1 gN=>?_⟩;obtain⟨G4,x4,DY,_⟩:=D1.freeze x3;split at gN
   ·rename_i kk e1;obtain⟨j,hj,gN⟩:=gN;rw[e1] at DY;simp only[Rep] at DY;have tq:=x1.trans x4;have d3:H3 qn=some (.lst xs):=x4.h _ _ c3;have d2:G4 qn=none:=x4.n _ c2 (by rw[c3];exact nofun);refine⟨a,fp.map V.ref,kk,j,rfl,DY,tq.h _ _ ha,by rw[ae,hr.length];exact hj,?_⟩;have J9:qn≠a:=fun z=>by rw[z,ha] at c1;cases c1
    let H2:Hp:=fun b=>if b=qn then none else H3 b
    have Ft:∀b,b≠qn->H2 b=H3 b:=fun b h=>if_neg h
    have x2:Ext G H G4 H2:=⟨tq.g,fun b u e=>by rw[Ft b (gX e c1)];exact tq.h b u e,fun b u e=>by rw[Ft b (gX e d2)];exact tq.s b u e,tq.n⟩
    refine g.nx _ _ G4 _ tq.g ((k.ext x2).sA hg b1 fun lJ nd ow=>?_) gN;obtain⟨_,U5,oq⟩:=ow;have e3:lJ=fp:=by
     have:=(x2.h _ _ ha).symm.trans U5;injection this with this
     injection this with this
     exact((List.map_inj_right fun a b h=>by cases h;rfl).mp this).symm
    subst e3;have Bc:=aY.mp nd;have UG:qn∉lJ:=fun z=>hr.here qn z c1
    refine⟨lJ.set j qn,?_,⟨rfl,by rw[gB,List.map_set],b9.put (xs:=xs) (by rw[cN J9];exact d3) (c4.mono x4.g) j (hr.mono tq.g fun q hq zs e=>?_)⟩,fun q hq=>?_,fun b hb u4=>?_⟩
    ·rw[aY];refine⟨fun z=>?_,Iu j Bc.2 UG⟩;rcases List.mem_or_eq_of_mem_set z with z | z
     ·exact Bc.1 z
     ·exact J9 z.symm
    ·rw[cN (fun z:q=a=>Bc.1 (z▸hq))];exact tq.h _ _ e
    ·rcases ah.mp hq with rfl | hq
     ·exact .inl (by simp)
     ·rcases List.mem_or_eq_of_mem_set hq with hq | rfl
      ·exact .inl (by simp[hq])
      ·exact .inr (if_pos rfl)
    ·have U3:b≠qn:=fun z=>u4 (by rw[z];exact if_pos rfl)
     rw[cN (fun z=>hb (by simp[z])),Ft b U3]
   ·exact gN.elim
  ·exact hq.elim
 ·exact h.elim
def sU(j i n:Nat)(t:kz)(ts:iI):TX:=fun D ρ=>match gt ρ j with
 | .ow us=>match gt ρ i with
  | .ov (.ll cg)=>ts ρ fun ds=>ds.length=n/\t cg ds fun d oB=>us.length<sizeLine/\D.nx ((ρ.set i (.ov (.ll oB))).set j (.ow (us++[d])))
  | _=>False
 | _=>False
theorem xO(j i:Nat){k k' n:Nat}{t:kz}{f x y:Str}{p p0 p1 p2 pos' fQ:Pos}(C:cH X.prog X.w X.K X.mg X.base k f n t)(hr:cT k' X.A)(ht:lb X es ts)(hk:k<=k':=by decide)(UT:Gl X f:=by rfl)(js:(f==("__debug__":Str))=false:=by decide)
  (y1:starEach (.Name y p::es) X.env=(false,eval (.Name y p) X.env)::starEach es X.env:=by rfl) (fR:(backTo fQ (starEach es X.env)).any (·.1)=false:=by rfl)
  (hN:X.N[j]?=some x:=by rfl) (hv:l8 X.env.scope x:=by first | exact Or.inl rfl | exact Or.inr (Or.inl rfl) | exact Or.inr (Or.inr rfl)) (hd:(x==("__debug__":Str))=false:=by decide) (iO:(x==("__classdict__":Str))=false:=by decide)
  (Ku:X.N[i]?=some y:=by rfl) (Ul:l8 X.env.scope y:=by first | exact Or.inl rfl | exact Or.inr (Or.inl rfl) | exact Or.inr (Or.inr rfl)) (hd2:(y==("__debug__":Str))=false:=by decide) (Ff:(y==("__classdict__":Str))=false:=by decide)
  (gI:starEach [.Call (.Name f p0) (.Name y p::es) [] fQ] X.env=(false,eval (.Call (.Name f p0) (.Name y p::es) [] fQ) X.env)::starEach [] X.env:=by rfl)
  (hb:∀{ta:TE} {t:TA},PE X (.Name x p1) ta->PA X [.Call (.Name f p0) (.Name y p::es) [] fQ] t->PE X (.Call (.Attribute (.Name x p1) "append" p2) [.Call (.Name f p0) (.Name y p::es) [] fQ] [] pos') (DS X.K "list" CC ta t):=by intro ta t h1 h2;exact BV PySem.F.plainAttrs_list PySem.F.slot_list_append PySem.F.type_list_append C7 h1 h2) :
  PX X (.Expr (.Call (.Attribute (.Name x p1) "append" p2) [.Call (.Name f p0) (.Name y p::es) [] fQ] [] pos') pos) (sU j i n t ts):=by
 obtain⟨f',fd,ps,F,hm,kp,zu⟩:=C.ex;obtain⟨tt,pp,q⟩:=ht;refine⟨_,Aq (hb (oR hN hv hd iO) (mK (Ap F (hr.mono hk) UT hm kp zu .nil BU (mK (oR Ku Ul hd2 Ff) pp y1) js y1 fR) pE gI)),fun ρ σ G0 H0 G H D E k h g=>?_⟩;unfold sU at h;split at h
 ·rename_i us hj;split at h
  ·rename_i cg hg;obtain⟨a,xs,h1,h2,h3,h4,h5⟩:=k.ow j us hj;obtain⟨b0,_,b1,_⟩:=k.tK hg;refine⟨_,h1,.inl ⟨rfl,xs,gc.of h2⟩,_,b1,q ρ σ G0 H0 G H _ _ k h fun vs H' ds G' x1 rs hq=>?_⟩;show t8 X.K n t ((.ref b0::vs)++[]) H' _ _;rw[aM];have k1:=k.ext x1;obtain⟨b,fp,c1,c2,c3,c4,c5⟩:=k1.tK hg;rw[b1] at c1;cases c1;refine⟨G',b0,vs,fp,cg,ds,_,k1.e.s,rfl,c2,c3,c4,rs,hq.1,hq.2,fun v H2 d oB G2 x2 rv io kq=>?_⟩;have k2:=c5 G2 H2 _ x2 io;have ot:i≠j:=fun z=>by rw[z,hj] at hg;cases hg
   have Bm:gt (ρ.set i (.ov (.ll oB))) j=.ow us:=by rw[rC,if_neg (fun z=>ot z.1)];exact hj
   obtain⟨a2,DO,e1,e2,e3,e4,e5⟩:=k2.ow j us Bm;rw[h1] at e1;cases e1;refine⟨a,DO,v,rfl,rfl,e2,by rw[e5.length];exact kq.1,?_⟩;exact g.nx _ _ G2 _ (x1.g.trans x2.g) (k2.change Bm h1 (e5.append (bB.cons rv bB.nil))) kq.2
  ·exact h.elim
 ·exact h.elim
end
section
variable {P:Program} {w:World} {K:PySem.W.Frag} {mg:Str->Option Value} {base:Heap}
theorem xX{x:Str}{st:Stmt}{N ps:List Str}{t:kz}{T:Addr->(D->List (List D)->Prop)->TX}{n d:Nat}(k:Nat)(A:At K mg x st)(S:bI N ps (bx st))
  (body:∀(a:Addr) (Qr:D->List (List D)->Prop) (f:Addr) (cf:Value) (A:Around) (outer:List Env) (s:Shared) (H:Hp) (E:XK),cT k (A.deeper (envOfC x (bx st) s.heap.objs.size f cf))->qV (jl hZ P w K mg base N x (bx st) f cf A outer s H E).kN (Wr K a Qr) (cq st) (T a Qr))
  (spec:∀(a:Addr) (cg:List (List D)) (ds:List D) (Qr:D->List (List D)->Prop),ds.length=n->t cg ds Qr->T a Qr { nx:=fun _=>False,rt:=fun _=>False } (uv N a cg ds))
  (b:∀(kV doc pm:Value) (an:Option Addr) (cf ct:Value) (us:List Value),us.length=n+1->bindArgs (PySem.W.fnOf x x (dX st) (cq st) (bx st) .none kV doc pm an cf ct) ⟨us,[]⟩=pure (ps.zip us)) (hn:ps.length=n+1:=by rfl) (hd:k+1=d:=by rfl):cH P w K mg base d x n t:=by
 subst hd;obtain⟨f,fd,F,hm⟩:=A.ex;refine⟨f,fd,ps,?_,hm,F.kp,F.binds (by rw[hn];exact b)⟩;refine F.ok S (fun vs H Q E h=>?_) (fun cf A outer s H vs Q E hr h=>?_)
 ·obtain⟨G,a,us,fp,cg,ds,Qr,_,rfl,_,_,_,r,hl,_⟩:=h;rw[aB,r.length,hl,hn]
 ·obtain⟨G,a,us,fp,cg,ds,Qr,s0,rfl,nd,ow,gn,r,hl,ht,k0⟩:=h;obtain⟨tt,p,q⟩:=body a Qr f cf A outer s H E hr;exact⟨tt,p,q _ _ G _ G H _ _ (Oe s0 nd ow gn r) (spec a cg ds Qr hl ht) ⟨fun _ _ _ _ _ _ h=>h.elim,fun _ _ _ _ _ _ h=>h.elim,fun _ _ _ _ _ _ h=>h.elim,fun _ _ _ _ _ _ h=>h.elim⟩ k0⟩
end
section
variable {X:Cx} {c:Hp->Hp->Prop} {tg:Expr} {pos:Pos}
theorem Ai{iter:Expr}{body:List Stmt}{wi:kQ}{g:ij}{tb:TX}(hp:PassesOwn (model X.prog X.w) X.A X.env X.xe)(hc:X.calm=true)(hi:PId X tg iter wi)(hg:qo X tg g)(hb:sJ X c body tb)
  (hs:∀x,foldedSetIterable iter X.env x=pure x:=by intro _;rfl):t4 X c (.For tg iter body [] pos) (j8 wi g tb):=by
 obtain⟨t1,p1,q1⟩:=hi;obtain⟨t2,p2,q2⟩:=hg;obtain⟨t3,p3,q3⟩:=hb;refine⟨_,Gw hp hc p1 p2 p3 hs,fun ρ σ G0 H0 G H D E k h gg hw=>q1 ρ σ G0 H0 G H _ _ k h fun J H1 ds G1 x1 wk hq=>?_⟩;obtain⟨Iv,i0,turn,fin⟩:=hq;refine⟨fun i m cc H'=>m=ds.length-i/\i<=ds.length/\∃ρ' G',cF X.K G0 H0 ρ' cc G' H'/\bL G1 G'/\Iv i ρ',⟨ds.length,by simp,bg _,ρ,G1,k.ext x1,bL.refl _,i0⟩,?_⟩;rintro i m cc H' ⟨rfl,hi,ρ',G',k',s',iv⟩;by_cases eR:i<ds.length
 ·obtain⟨w1,w2⟩:=wk;obtain⟨go,yl⟩:=w1 i ds[i] G' H' (ao eR) s' k'.e.s;refine .inr ⟨go,fun jB H2=>∃dR G2,cF X.K G0 H0 dR jB G2 H2/\bL G1 G2/\Iv (i+1) dR,fun jB H2 ⟨dR,G2,k2,s2,Ef⟩=>⟨ds.length-(i+1),by omega,rfl,eR,dR,G2,k2,s2,Ef⟩,fun v H2 hy=>?_⟩;obtain⟨G2,x2,rv⟩:=yl v H2 hy;refine q2 ρ' cc G0 H0 G2 H2 ds[i] v _ _ (k'.ext x2) rv (turn i ds[i] ρ' (ao eR) iv) fun pj j7 G3 H3 k3 x3 gN=>?_
  have s3:bL G1 G3:=(s'.trans x2.g).trans x3.g;refine q3 pj j7 G0 H0 G3 H3 _ _ k3 gN ⟨fun lN mE G4 H4 s4 k4 h4=>⟨lN,G4,k4,s3.trans s4,h4⟩,gg.rt,fun lN mE G4 H4 s4 k4 h4=>gg.nx lN mE G4 H4 ((x1.g.trans s3).trans s4) k4 h4,fun lN mE G4 H4 s4 k4 h4=>⟨lN,G4,k4,s3.trans s4,h4⟩⟩ hw
 ·have e:i=ds.length:=by omega
  subst e;exact .inl ⟨wk.2 G' H' s' k'.e.s,gg.nx ρ' cc G' H' (x1.g.trans s') k' (fin ρ' iv)⟩
end
end L2
namespace L2
open PySem PySem.Spec PyProof.Rows
section
variable {X:Cx} {pos:Pos} {e:Expr} {es:List Expr} {ts:iI}
def Gp(t u:TD):TD:=fun ρ Q=>t ρ Q\/u ρ Q
theorem Cr{t u:TD}(h1:PD X e t)(h2:PD X e u):PD X e (Gp t u):=by
 obtain⟨t1,p1,q1⟩:=h1;obtain⟨t2,p2,q2⟩:=h2;refine⟨fun σ H P=>t1 σ H P\/t2 σ H P,fun pins s σ H Q I h=>h.elim (p1 pins s σ H Q I) (p2 pins s σ H Q I),fun ρ σ G0 H0 G H Q P E h k=>?_⟩;rcases h with h | h
 ·exact .inl (q1 ρ σ G0 H0 G H Q P E h k)
 ·exact .inr (q2 ρ σ G0 H0 G H Q P E h k)
def rj(c0 c1 c2 c3:Str)(b0 b1 b2 b3:Bool)(te:TD):TD:=fun ρ Q=>te ρ fun r=>match r.val with
 | .exc c _=>if c=c0 then Q (.fz (.bl b0)) else if c=c1 then Q (.fz (.bl b1)) else if c=c2 then Q (.fz (.bl b2)) else if c=c3 then Q (.fz (.bl b3)) else False
 | _=>False
def F6(te:TD):Prop:=∀ρ Q,te ρ Q->∃r,Q r/\∀Q',Q' r->te ρ Q'
theorem uu(i:Nat):F6 (bz i):=fun ρ Q h=>by
 unfold bz at h;split at h
 ·rename_i d e;exact⟨_,h,fun Q' h'=>by unfold bz;rw[e];exact h'⟩
 ·exact h.elim
theorem ur{c0 c1 c2 c3:Str}{b0 b1 b2 b3:Bool}{te:TD}(o:F6 te)(h0:PD X e (sQ c0 b0 te))(h1:PD X e (sQ c1 b1 te))(h2:PD X e (sQ c2 b2 te))(h3:PD X e (sQ c3 b3 te)):PD X e (rj c0 c1 c2 c3 b0 b1 b2 b3 te):=by
 obtain⟨tt,p,q⟩:=Cr h0 (Cr h1 (Cr h2 h3));refine⟨tt,p,fun ρ σ G0 H0 G H Q P E h k=>q ρ σ G0 H0 G H Q P E ?_ k⟩;obtain⟨r,h,back⟩:=o ρ _ h;unfold Gp sQ;split at h
 ·rename_i c fs e1;split at h
  ·rename_i e2;exact .inl (back _ (by rw[e1];exact⟨e2,h⟩))
  ·split at h
   ·rename_i e2;exact .inr (.inl (back _ (by rw[e1];exact⟨e2,h⟩)))
   ·split at h
    ·rename_i e2;exact .inr (.inr (.inl (back _ (by rw[e1];exact⟨e2,h⟩))))
    ·split at h
     ·rename_i e2;exact .inr (.inr (.inr (back _ (by rw[e1];exact⟨e2,h⟩))))
     ·exact h.elim
 ·exact h.elim
theorem Dm{k k' n:Nat}{t:iJ}{x:Str}{p:Pos}(F:cm X.prog X.w X.K X.mg X.base k x n t)(hr:cT k' X.A)(ha:lb X (e::es) ts)(hk:k<=k':=by decide)(hg:Gl X x:=by rfl)(js:(x==("__debug__":Str))=false:=by decide)
  (he:starEach (e::es) X.env=(false,eval e X.env)::starEach es X.env:=by rfl) (fR:(backTo pos (starEach es X.env)).any (·.1)=false:=by rfl):PD X (.Call (.Name x p) (e::es) [] pos) (nY n t (fun _ _ _=>False) ts):=by
 obtain⟨f,fd,ps,F,hm,kp,hb⟩:=F.ex;obtain⟨tt,pp,q⟩:=ha;refine⟨_,Ap (E:=fun _ _ _=>False) F (hr.mono hk) hg hm kp hb .nil (fun pins σ H s e s' I ⟨_,_,_,_,_,_,_,_,_,_,_,_,w⟩=>w.elim) pp js he fR,fun ρ σ G0 H0 G H Q P E h k=>q ρ σ G0 H0 G H _ _ E h fun vs H' ds G' y rs hq=>?_⟩;rw[aM];exact⟨G',ds,Q,_,y.s,rs,hq.1,hq.2,fun v H2 r G2 x2 rr q2=>k v H2 r G2 (y.trans x2) (rr.ef y.h) q2,fun _ _ _ _ _ _ _ _ _ z=>z⟩
def BZ(q n:Nat)(t:iJ)(ts:iI)(ok:List Str)(u:TX):TX:=fun D ρ=>ts ρ fun ds=>ds.length=n/\t ds (fun _=>D.nx ρ) (fun cn fn r=>cn∈ok/\∃d,r=.fz d/\u { nx:=fun ρ'=>D.nx (ρ'.set q .un),rt:=fun _=>False } (ρ.set q (.fz (.exc cn [(fn,d)]))))
theorem NK(q:Nat){C':Addr}{k k' n:Nat}{t:iJ}{ok:List Str}{u:TX}{f ex er:Str}{b0:Stmt}{kM:List Stmt}{p2 p3 p4 p5 p9:Pos}(F:cm X.prog X.w X.K X.mg X.base k f n t)(hr:cT k' X.A)(uV:X.mg ex=some (.ref C'))(cB:∀cn∈ok,∀C,PySem.W.nsIn X.K mainGlobals cn=some (some (.ref C))->PySem.W.exmOne X.K (.ref C) (.ref C')=some true)(y0:X.xe=fun _ _=>False)(hN:X.N.Nodup)(ha:lb X (e::es) ts)(hu:∀a,md (X.iE a) (b0::kM) u)
  (gI:X.stack=X.env::X.outer:=by rfl) (jK:X.env.frame=some X.env.locals:=by rfl) (hk:k<=k':=by decide) (hg:Gl X f:=by rfl) (js:(f==("__debug__":Str))=false:=by decide) (US:Gl X ex:=by rfl) (lZ:(ex==("__debug__":Str))=false:=by decide)
  (he:starEach (e::es) X.env=(false,eval e X.env)::starEach es X.env:=by rfl) (fR:(backTo p3 (starEach es X.env)).any (·.1)=false:=by rfl) (hs:swapsWith (.Call (.Name f p2) (e::es) [] p3) none p4.line X.env=pure false:=by rfl)
  (hq:X.N[q]?=some er:=by rfl) (UY:X.env.kindOf er=some .local:=by rfl) (Bo:Loc X.env.scope er:=by first | exact Or.inl rfl | exact Or.inr rfl) (Fb:X.fn er=true\/X.env.scope.names.lookup er=some .local:=by first | exact .inl rfl | exact .inr rfl) :
  PX X (.Try [.Expr (.Call (.Name f p2) (e::es) [] p3) p4] [.ExceptHandler (some (.Name ex p5)) (some er) (b0::kM) p9] [] [] pos) (BZ q n t ts ok u):=by
 obtain⟨fa,fd,ps,F,hm,kp,hb⟩:=F.ex;obtain⟨tt,pp,qq⟩:=ha;have h1:∀a,la (X.iE a) (b0::kM) (hu a).choose:=fun a=>(hu a).choose_spec.1
 have h2:=fun a=>(hu a).choose_spec.2
 refine⟨fun D σ H=>tt σ H fun vs H1=>t7 X.K n t vs H1 (fun _ H2=>D.nx σ H2) (fun c dd H2=>∀C,c=.ref C->∀a,H2 a=none->PySem.W.exmOne X.K (.ref C) (.ref C')=some true/\(hu a).choose { nx:=fun cc H3=>D.nx (cc.set q none) H3,rt:=fun _ _=>False } (σ.set q (some (.ref a))) (upd H2 a (.ext (wj a C dd)))),fun pins s σ H D I h=>?_,fun ρ σ G0 H0 G H D E k h g=>?_⟩
 ·refine wpAny_Try_except ?_;rw[y0];have args:=pp p3 pins s σ H _ I h;rw[y0] at args;refine wpAny_execs_cons (bc (Q:=fun f s1=>f=.next/\∃H2,Inv X pins σ H2 s1/\D.nx σ H2) (wpAny_Expr_any (bc (Q:=EP X pins σ fun _ H2=>D.nx σ H2) (wpAny_Call_Name_kw (um I hg hm ?_ js)) (fun v s1 z=>?_) fun _ _ z=>z) I.quiet hs) (fun f s1 z=>?_) fun _ _ z=>z)
  ·refine PySem.W.callWith_K (h₀:=X.base) I.ok.mod.wg kp (bc args (fun us s1 z=>?_) fun _ _ z=>z.elim) he fR;obtain⟨vs,H1,I1,r,z⟩:=z;have r2:Vals (vs++[]) (us++[]):=by rw[aM,aM];exact r
   have hl:(us++[]).length=ps.length:=by rw[<-r2.length];exact F.len _ _ _ _ (by rw[aM];exact z)
   refine⟨I1.i4,wpAny_call (codeAny_mono (F.run X.A X.stack s1 H1 ⟨us,[]⟩ (us++[]) (vs++[]) _ _ (hr.mono hk) I1.mZ (hb s1 us I1.i4 hl) r2 (by rw[aM];exact z)) fun r s' kY=>?_)⟩;cases r with
   | error e'=>
    dsimp only[CR] at kY;exact NO (D:=D) I1 kY uV gI jK US lZ y0 hN hq UY Bo Fb h1 (fun C dd H' z=>z C rfl) fun cc H' s2 I2 z=>⟨cc,H',I2,z⟩
   | ok fl=>
    cases fl with
    | ret u=>exact I1.after kY
    | next=>exact False.elim kY
    | brk=>exact False.elim kY
    | cont=>exact False.elim kY
  ·obtain⟨u,H2,I2,r2,z2⟩:=z;exact⟨rfl,H2,I2,z2⟩
  ·obtain⟨rfl,H2,I2,z2⟩:=z;exact wpAny_execs_nil (wpAny_execs_nil ⟨_,H2,I2,z2⟩)
 ·refine qq ρ σ G0 H0 G H _ _ k h fun vs H' ds G' x1 rs kY=>?_
  refine⟨G',ds,_,_,x1.s,rs,kY.1,kY.2,fun v H2 r G2 x2 rr z=>g.nx _ _ G2 H2 (x1.g.trans x2.g) (k.ext (x1.trans x2)) z,fun G2 H2 C dd cn fn r x2 xo z C2 ec a hn=>?_⟩;cases ec;obtain⟨lI,dx,v,rfl,hd,hf⟩:=xo;obtain⟨z1,d,rfl,z2⟩:=z;refine⟨cB cn z1 C lI,?_⟩;have k2:=k.ext (x1.trans x2);have x3:Ext G2 H2 (upd G2 a (.ext (wj a C (some dx)))) (upd H2 a (.ext (wj a C (some dx)))):=.new x2.s hn;have rep:Rep X.K (upd G2 a (.ext (wj a C (some dx)))) (.ref a) (.exc cn [(fn,d)]):=by
   simp only[Rep,cE];exact⟨a,_,C,some dx,[(fn,v)],rfl,gB,lI,fun h bV=>by obtain⟨o,vs,z1,z2,z3,z4⟩:=bV;exact⟨o,z1,z2,.inr ⟨z3,vs,z4⟩⟩,.inr (hd.mono x3.g),⟨rfl,Rep.mono x3.g _ _ hf⟩,trivial⟩
  refine h2 a _ _ G0 H0 _ _ _ _ (k2.put (i:=q) x3 (r:=.fz (.exc cn [(fn,d)])) (fj rep)) z2 ⟨fun ρ' cc G3 H3 s3 k3 z3=>?_,fun _ _ _ _ _ _ z=>z.elim,fun _ _ _ _ _ _ z=>z.elim,fun _ _ _ _ _ _ z=>z.elim⟩;exact g.nx _ _ G3 H3 (((x1.g.trans x2.g).trans x3.g).trans s3) (k3.unset (i:=q) (u:=none)) z3
def xl:O2:=fun d e Q=>match d,e with
 | .bl b,.bl c=>Q (.fz (.bl (b==c)))
 | _,_=>False
theorem Gn:jP X (compareOp .Is) xl:=by
 refine⟨fun x y H Q=>∃b c,x=.bl b/\y=.bl c/\Q (.bl (b==c)) H,fun pins s σ H x y v u Q I rx ry h=>?_,fun G H x y d e Q P s rx ry h k=>?_⟩
 ·obtain⟨b,c,rfl,rfl,q⟩:=h;cases (show v=Value.bool b from rx);cases (show u=Value.bool c from ry);exact is_bool ⟨.bl _,H,I,rfl,q⟩
 ·unfold xl at h;split at h
  ·simp only[Rep] at rx ry;exact⟨_,_,rx,ry,k _ _ _ G (.refl s) (fj (jy _ _ _)) h⟩
  ·exact h.elim
end
end L2
section
namespace Wc
open PySem L2
noncomputable def g8(l:List Nat):Str:=⟨l.toArray⟩
theorem xG(l:List Nat):(g8 l).cps.toList=l:=by simp[g8]
theorem lR(l:List Nat):(g8 l).length=l.length:=by simp[g8,Str.length]
theorem uq(a b:List Nat):g8 a++g8 b=g8 (a++b):=by
 show(⟨(g8 a).cps++(g8 b).cps⟩:Str)=_;simp[g8]
theorem rQ{a b:List Nat}:g8 a=g8 b↔a=b:=by
 constructor
 ·intro h;have:(g8 a).cps.toList=(g8 b).cps.toList:=by rw[h]
  simpa[g8] using this
 ·rintro rfl;rfl
theorem GO(w:Str):g8 w.cps.toList=w:=by cases w;simp[g8]
theorem tJ(c:Nat):(⟨#[c]⟩:Str)=g8 [c]:=rfl
theorem Cq{α β:Type}(f:α->β)(l:List α)(i:Int):fF (l.map f) i=(fF l i).map f:=by
 unfold fF;rw[ae];cases rS l.length i with
 | none=>rfl
 | some j=>simp
theorem Nc{α β:Type}{f:α->β}{o:Option α}{p:β->Prop}:(∃d,o.map f=some d/\p d)↔∃x,o=some x/\p (f x):=by
 cases o with
 | none=>simp
 | some x=>simp
theorem GN{α β:Type}{f:α->β}{l:List α}{i:Int}{p:β->Prop}:(∃d,fF (l.map f) i=some d/\p d)↔∃x,fF l i=some x/\p (f x):=by rw[Cq];exact Nc
theorem vH{α:Type}{l:List α}{i:Int}(h0:0<=i)(h1:i<l.length):∃h:i.toNat<l.length,fF l i=some (l[i.toNat]'h):=by
 refine⟨by omega,?_⟩;unfold fF rS;rw[if_pos h0,if_pos h1];simp only[Option.bind_some];exact ao _
theorem Cp{α:Type}{l:List α}{i:Int}(h0:0<=i)(h1:i<l.length):∃z,fF l i=some z/\z∈l:=by
 obtain⟨h,e⟩:=vH h0 h1;exact⟨_,e,List.getElem_mem h⟩
theorem z9{α:Type}{l:List α}{n:Nat}(i:Int)(hl:n<=l.length)(h:0<n):∃z,fF l (i%(n:Int))=some z/\z∈l:=
 Cp (aH _ (by omega)) (by have:=aJ i (show(0:Int)<n by omega);omega)
theorem KJ{α:Type}{l:List α}(i:Int)(hl:l.length=8):∃z,fF l (i%8)=some z/\z∈l:=z9 (n:=8) i (by omega) (by omega)
theorem VB{α:Type}{l:List α}(i:Int)(hl:l.length=8):∃z,fF l (i%5)=some z/\z∈l:=z9 (n:=5) i (by omega) (by omega)
theorem VC{α:Type}{l:List α}(i:Int)(hl:l.length=8):∃z,fF l (i%3)=some z/\z∈l:=z9 (n:=3) i (by omega) (by omega)
theorem kJ{α:Type}{l:List α}{j:Nat}(h:j<l.length):fF l (j:Int)=some l[j]:=by
 obtain⟨h',e⟩:=vH (l:=l) (i:=(j:Int)) (by omega) (by omega);simpa using e
theorem Ah{n d:Nat}{j:Int}(h:0<=j):HT.dz n d (some j)=min j.toNat n:=by show(if j<0 then _ else _)=_;rw[if_neg (by omega)]
theorem uo{α:Type}(l:List α){j:Int}(h:0<=j):iR l none (some j)=l.take j.toNat:=by
 unfold iR;rw[Ah h];show((l.drop 0).take (min j.toNat l.length-0))=_;rw[List.drop_zero,Nat.sub_zero,Nat.min_comm];by_cases hl:l.length<=j.toNat
 ·rw[Nat.min_eq_left hl,List.take_of_length_le hl,List.take_of_length_le (aw _)]
 ·rw[Nat.min_eq_right (by omega)]
theorem Df{α:Type}(l:List α){j:Int}(h:0<=j):iR l (some j) none=l.drop j.toNat:=by
 unfold iR;rw[Ah h];show((l.drop (min j.toNat l.length)).take (l.length-_))=_;by_cases hl:l.length<=j.toNat
 ·rw[Nat.min_eq_right hl,List.drop_of_length_le hl,List.drop_of_length_le (aw _)];simp
 ·rw[Nat.min_eq_left (by omega),List.take_of_length_le (by simp)]
theorem HK{α:Type}(l:List α){i j:Int}(hi:0<=i)(h:0<=j):iR l (some i) (some j)=(l.drop i.toNat).take (j.toNat-i.toNat):=by
 unfold iR;rw[Ah h,Ah hi];by_cases hl:l.length<=i.toNat
 ·rw[Nat.min_eq_right hl,List.drop_of_length_le hl,List.drop_of_length_le (aw _)];simp
 ·rw[Nat.min_eq_left (a:=i.toNat) (by omega)];by_cases hj:l.length<=j.toNat
  ·rw[Nat.min_eq_right hj,List.take_of_length_le (by simp),List.take_of_length_le (by simp;omega)]
  ·rw[Nat.min_eq_left (by omega)]
theorem xF(l:List Nat){j:Int}(h:0<=j):pk (g8 l) none (some j)=g8 (l.take j.toNat):=by unfold pk;rw[xG,uo _ h];rfl
theorem PR(l:List Nat){j:Int}(h:0<=j):pk (g8 l) (some j) none=g8 (l.drop j.toNat):=by unfold pk;rw[xG,Df _ h];rfl
theorem Oc(l:List Nat){i j:Int}(hi:0<=i)(h:0<=j):pk (g8 l) (some i) (some j)=g8 ((l.drop i.toNat).take (j.toNat-i.toNat)):=by unfold pk;rw[xG,HK _ hi h];rfl
theorem CL{α β:Type}(f:α->β)(l:List α)(lo hi:Option Int):iR (l.map f) lo hi=(iR l lo hi).map f:=by unfold iR;rw[ae,List.map_take,List.map_drop]
theorem xE(n:Nat)(i:Int):dg n (.int i)=True:=by cases n<;>exact eq_true trivial
theorem vJ(n:Nat)(i:Str):dg n (.str i)=True:=by cases n<;>exact eq_true trivial
theorem Nb(n:Nat)(i:Bool):dg n (.bl i)=True:=by cases n<;>exact eq_true trivial
theorem Hk(n:Nat):dg n .non=True:=by cases n<;>exact eq_true trivial
theorem vI{α:Type}[BEq α][LawfulBEq α][DecidableEq α](a b:α):(a==b)=decide (a=b):=by rw[Bool.eq_iff_iff];simp
theorem Hj(a b:Str):cW (.str a) (.str b)=decide (a=b):=by simp only[cW,vI]
theorem Hi(a b:Int):cW (.int a) (.int b)=decide (a=b):=by simp only[cW,vI]
theorem ie:sizeLine=16777216:=by decide
@[irreducible] def mM(u:TX)(D:DE):Ev->Prop:=u D
theorem GL(t u:TX)(D:DE)(ρ:Ev):b8 t u D ρ=t { nx:=mM u D,rt:=D.rt,bk:=D.bk,ct:=D.ct } ρ:=by unfold mM;rfl
end Wc
open PySem L2 Wc
local macro_rules | `(tactic| walk_at "b")=>`(tactic| simp only[GL,eO,sM,qt,sD,cL,uh,dC,ug,GY,LU,LS,ek,bF,bQ,bz,au,List.map_nil,List.cons_append,List.nil_append,List.set,gt,jY,gM,oI,bE,dA,ft,fb,mH,df,fX,gq,fY,oO,dy,jZ,fZ,mG,vh,jv,oEq,yO,cM,jN,kX,iT,fq,xj,FD,LA,zE,vj,xq,xh,dM,xt,kG,ue,vp,rg,qZ,jL,ib,pq,uf,lF,iS,Ci,nu,xr,qY,zO,zev,MU,MT,TU,TR,fc,iK,Int.reduceLT,Int.reduceLE,Int.reduceAdd,Int.reduceSub,Int.reduceMul,Int.reduceNeg,Int.reducePow,Int.reduceToNat,decide_true,decide_false,true_and,and_true,and_self,or_true,true_or,xE,vJ,Nb,Hk,GN,ay,aX,bh,Bool.not_true,Bool.not_false,aB,bu,Nat.reduceAdd,decide_eq_true_eq,Hi,Hj,CL,xY,AH,rn])
local macro_rules | `(tactic| walk_at "all")=>`(tactic| ((try walk_at "px");repeat(simp only[mM];try walk_at "px")))
local macro_rules | `(tactic| walk_at "px")=>`(tactic| walk_at "b")
local macro_rules | `(tactic| walk_at "go")=>`(tactic| (simp only[mM];walk_at "px"))
namespace Wc
open PySem L2
noncomputable def ub(c k:Int):Int:=(c%1000000000000000000000000000000*(k*k+48271)+7919*k*k*k+11)%2147483647/7
theorem Na(c k:Int):0<=ub c k:=Int.ediv_nonneg (aH _ (by decide)) (by decide)
def oY:eX:=fun ds Q=>∃c k:Int,ds=[.int c,.int k]/\0<=k/\k<=1000000/\Q (.fz (.int (ub c k)))
def Dl:TX:=(ft (bE (oI fc fun i j=>.int (i/j)) (bE (oI (fun _ j=>0<j) fun i j=>.int (i%j)) (bE dA (bE dA (bE (oI iK fun i j=>.int (i*j)) (bE (oI (fun _ j=>0<j) fun i j=>.int (i%j)) (bz 0) (bE (oI qw fun i j=>.int (i ^ j.toNat)) (dC (.int 10)) (dC (.int 30)))) (bE dA (bE (oI iK fun i j=>.int (i*j)) (bz 1) (bz 1)) (dC (.int 48271)))) (bE (oI iK fun i j=>.int (i*j)) (bE (oI iK fun i j=>.int (i*j)) (bE (oI iK fun i j=>.int (i*j)) (dC (.int 7919)) (bz 1)) (bz 1)) (bz 1))) (dC (.int 11))) (dC (.int 2147483647))) (dC (.int 7))))
abbrev jw(n:Nat)(sp:eX)(T:TX)(N:List Str):Prop:=∀(ds:List D) (Qr:R->Prop),ds.length=n->sp ds Qr->T { nx:=fun _=>Qr (.fz .non),rt:=Qr } (lS N ds)
theorem Rj:jw 2 oY Dl ["_law_cell","_law_k"]:=by
 intro ds Qr hl h;obtain⟨c,k,rfl,h0,h1,q⟩:=h;show Dl _ [.fz (.int c),.fz (.int k)];unfold Dl;walk_at "all";have hk:k*k<=1000000*1000000:=Int.mul_le_mul h1 h1 h0 (by decide);have VW:0<=k*k:=Int.mul_nonneg h0 h0;refine⟨.inl ⟨by omega,by omega⟩,.inr ⟨by omega,by omega⟩,.inr ⟨by omega,by omega⟩,.inr ⟨by omega,by omega⟩,?_⟩;exact q
end Wc
namespace Wc
open PySem L2 PyProof.Rows
noncomputable def dO:Option Str->D
 | none=>.non
 | some s=>.str s
noncomputable def dP(l:List (Option Str)):D:=.lst (l.map dO)
noncomputable def dS(l:List Str):D:=.lst (l.map .str)
noncomputable def dI(l:List Int):D:=.lst (l.map .int)
noncomputable def lL(p:Str×Int):D:=.tup [.str p.1,.int p.2]
noncomputable def i6(p:Int×Str):D:=.tup [.int p.1,.str p.2]
noncomputable def jj(p:Int×Int×Int):D:=.tup [.int p.1,.int p.2.1,.int p.2.2]
noncomputable def dW(l:List (Str×Int)):D:=.lst (l.map lL)
noncomputable def dB(l:List (Int×Str)):D:=.lst (l.map i6)
noncomputable def dK(l:List (Int×Int×Int)):D:=.lst (l.map jj)
structure bN where
 top:List (Option Str)
 bw:List (Option Str)
 left:List Str
 right:List Str
 wide:List (Str×Int)
 bH:List (Int×Str)
 keeps:List (Int×Int×Int)
noncomputable def bN.parts(c:bN):List D:=[dP c.top,dP c.bw,dS c.left,dS c.right,dW c.wide,dB c.bH,dK c.keeps]
noncomputable def bN.obj(c:bN):D:=.obj "Channel" [("top",dP c.top),("bottom",dP c.bw),("left",dS c.left),("right",dS c.right),("wide",dW c.wide),("bends",dB c.bH),("keeps",dK c.keeps)]
theorem rA(n:Nat)(o:Option Str):dg n (dO o)=True:=by
 cases o with
 | none=>exact Hk n
 | some s=>exact vJ n s
theorem vA(a b:Option Str):cW (dO a) (dO b)=decide (a=b):=by
 cases a<;>cases b<;>simp only[dO,cW,vI,Option.some.injEq,reduceCtorEq,decide_true,decide_false]
theorem tj(a:Option Str)(b:Str):cW (dO a) (.str b)=decide (a=some b):=vA a (some b)
theorem AF(a:Str)(b:Option Str):cW (.str a) (dO b)=decide (some a=b):=vA (some a) b
theorem sP(w:Str)(l:List Str):inD (.str w) (l.map .str)=decide (w∈l):=by
 unfold inD;rw[List.any_map];induction l with
 | nil=>rfl
 | cons a r ih=>
  rw[List.any_cons,ih,Function.comp_apply,Hj];by_cases h:a=w
  ·subst h;simp
  ·simp[h,Ne.symm h]
theorem xm(w:Str)(l:List (Option Str)):inD (.str w) (l.map dO)=decide (some w∈l):=by
 unfold inD;rw[List.any_map];induction l with
 | nil=>rfl
 | cons a r ih=>
  rw[List.any_cons,ih,Function.comp_apply,tj];by_cases h:a=some w
  ·subst h;simp
  ·simp[h,Ne.symm h]
theorem qG(n:Nat)(l:List Str):∀e∈l.map D.str,dg n e:=by
 intro e he;rw[aN] at he;obtain⟨x,_,rfl⟩:=he;rw[vJ];trivial
theorem vL(n:Nat)(l:List (Option Str)):∀e∈l.map dO,dg n e:=by
 intro e he;rw[aN] at he;obtain⟨x,_,rfl⟩:=he;rw[rA];trivial
def gf(ws:List Str)(l:List (Option Str)):Prop:=∀w,some w∈l->w∈ws
theorem Io{α:Type}{wi:kQ}{g:ij}{tb:TX}{D:DE}{ρ:Ev}(L:List α)(φ:α->L2.D)(hw:∀Q':List L2.D->Prop,Q' (oQ (L.map φ))->wi ρ Q')(Iv:Nat->Ev->Prop)(h0:Iv 0 ρ)
  (turn:∀(i:Nat) x ρ',L[i]?=some x->Iv i ρ'->g (.tup [.int i,φ x]) ρ' fun dR=>tb { D with nx:=Iv (i+1),ct:=Iv (i+1),bk:=D.nx } dR) (fin:∀ρ',Iv L.length ρ'->D.nx ρ'):j8 wi g tb D ρ:=by
 refine HZ (oQ (L.map φ)) hw Iv h0 (fun i d ρ' hd iv=>?_) (fun ρ' iv=>fin ρ' (by simpa[oQ] using iv));unfold oQ at hd;rw[List.getElem?_mapIdx,aR] at hd;cases hx:L[i]? with
 | none=>rw[hx] at hd;cases hd
 | some x=>rw[hx] at hd;cases hd;exact turn i x ρ' hx iv
theorem Im:∀{a b c:List Nat},Spec.ltCps a b=true->Spec.ltCps b c=true->Spec.ltCps a c=true
 | [],[],c,h,_=>by simp[Spec.ltCps] at h
 | [],b::bs,[],_,h=>by simp[Spec.ltCps] at h
 | [],b::bs,c::cs,_,_=>by simp[Spec.ltCps]
 | a::as,[],c,h,_=>by simp[Spec.ltCps] at h
 | a::as,b::bs,[],_,h=>by simp[Spec.ltCps] at h
 | a::as,b::bs,c::cs,h,h'=>by
  simp only[Spec.ltCps,Bool.or_eq_true,decide_eq_true_eq,Bool.and_eq_true,beq_iff_eq] at h h' ⊢;rcases h with h | ⟨rfl,h⟩
  ·rcases h' with h' | ⟨rfl,h'⟩
   ·left;omega
   ·left;omega
  ·rcases h' with h' | ⟨rfl,h'⟩
   ·left;omega
   ·right;exact⟨rfl,Im h h'⟩
theorem Hh:∀{a b:List Nat},Spec.ltCps a b=false->Spec.ltCps b a=false->a=b
 | [],[],_,_=>rfl
 | [],b::bs,h,_=>by simp[Spec.ltCps] at h
 | a::as,[],_,h=>by simp[Spec.ltCps] at h
 | a::as,b::bs,h,h'=>by
  simp only[Spec.ltCps,Bool.or_eq_false_iff,decide_eq_false_iff_not,Bool.and_eq_false_iff,beq_eq_false_iff_ne] at h h';have e:a=b:=by omega
  subst e;rw[Hh (h.2.resolve_left fun z=>z rfl) (h'.2.resolve_left fun z=>z rfl)]
theorem xD:∀(a:List Nat),Spec.ltCps a a=false
 | []=>rfl
 | a::as=>by simp[Spec.ltCps,xD as]
def hU(a b:Str):Prop:=Spec.ltCps a.cps.toList b.cps.toList=true
theorem Il{a b c:Str}(h:hU a b)(h':hU b c):hU a c:=Im h h'
theorem Ct{a b:Str}(h:a.cps.toList=b.cps.toList):a=b:=by rw[<-GO a,<-GO b,h]
theorem Ik:∀{p:Str} {l:List Str},risingS p l=true->(p::l).Nodup->(p::l).Pairwise hU
 | p,[],_,_=>by simp
 | p,x::r,h,nd=>by
  simp only[risingS,Bool.and_eq_true,Bool.not_eq_true'] at h;have Bc:=nd;rw[aY] at nd;have ih:=Ik h.2 nd.2;have eP:p≠x:=fun z=>nd.1 (by simp[z])
  have J5:hU p x:=by
   unfold hU;cases e:Spec.ltCps p.cps.toList x.cps.toList with
   | true=>rfl
   | false=>exact absurd (Ct (Hh e h.1)) eP
  rw[aW];refine⟨fun b hb=>?_,ih⟩;rcases ah.mp hb with rfl | hb
  ·exact J5
  ·exact Il J5 ((aW.mp ih).1 b hb)
theorem AE{l:List Str}(h:sortedS l=true)(nd:l.Nodup):l.Pairwise hU:=by
 cases l with
 | nil=>exact .nil
 | cons x r=>exact Ik h nd
def BY(g:ij)(tb:TX)(D:DE)(ρ:Ev)(ds:List L2.D):Prop:=∃Iv:Nat->Ev->Prop,Iv 0 ρ/\
 (∀i d ρ',ds[i]?=some d->Iv i ρ'->g d ρ' fun dR=>tb { D with nx:=Iv (i+1),ct:=Iv (i+1),bk:=D.nx } dR)/\∀ρ',Iv ds.length ρ'->D.nx ρ'
theorem HJ{wi:kQ}{g:ij}{tb:TX}{D:DE}{ρ:Ev}(P:List L2.D->Prop)(hw:∀Q':List L2.D->Prop,(∀ds,P ds->Q' ds)->wi ρ Q')(h:∀ds,P ds->BY g tb D ρ ds):j8 wi g tb D ρ:=hw _ h
theorem QU{α:Type}{g:ij}{tb:TX}{D:DE}{ρ:Ev}(L:List α)(φ:α->L2.D)(Iv:Nat->Ev->Prop)(h0:Iv 0 ρ)
  (turn:∀i x ρ',L[i]?=some x->Iv i ρ'->g (φ x) ρ' fun dR=>tb { D with nx:=Iv (i+1),ct:=Iv (i+1),bk:=D.nx } dR) (fin:∀ρ',Iv L.length ρ'->D.nx ρ'):BY g tb D ρ (L.map φ):=by
 refine⟨Iv,h0,fun i d ρ' hd iv=>?_,fun ρ' iv=>fin ρ' (by simpa using iv)⟩;rw[aR] at hd;cases hx:L[i]? with
 | none=>rw[hx] at hd;cases hd
 | some x=>rw[hx] at hd;cases hd;exact turn i x ρ' hx iv
theorem QT{α:Type}{g:ij}{tb:TX}{D:DE}{ρ:Ev}(L:List α)(φ:α->L2.D)(Iv:Nat->Ev->Prop)(h0:Iv 0 ρ)
  (turn:∀(i:Nat) x ρ',L[i]?=some x->Iv i ρ'->g (.tup [.int i,φ x]) ρ' fun dR=>tb { D with nx:=Iv (i+1),ct:=Iv (i+1),bk:=D.nx } dR) (fin:∀ρ',Iv L.length ρ'->D.nx ρ'):BY g tb D ρ (oQ (L.map φ)):=by
 refine⟨Iv,h0,fun i d ρ' hd iv=>?_,fun ρ' iv=>fin ρ' (by simpa[oQ] using iv)⟩;unfold oQ at hd;rw[List.getElem?_mapIdx,aR] at hd;cases hx:L[i]? with
 | none=>rw[hx] at hd;cases hd
 | some x=>rw[hx] at hd;cases hd;exact turn i x ρ' hx iv
theorem PQ(n:Nat)(p:Str×Int):dg (n+1) (lL p):=by
 intro d hd;simp only[ah,aK,or_false] at hd;rcases hd with rfl | rfl
 ·rw[vJ];trivial
 ·rw[xE];trivial
theorem PN(n:Nat)(p:Int×Str):dg (n+1) (i6 p):=by
 intro d hd;simp only[ah,aK,or_false] at hd;rcases hd with rfl | rfl
 ·rw[xE];trivial
 ·rw[vJ];trivial
theorem Ob(n:Nat)(p:Int×Int×Int):dg (n+1) (jj p):=by
 intro d hd;simp only[ah,aK,or_false] at hd;rcases hd with rfl | rfl | rfl<;>(rw[xE];trivial)
theorem xC{n:Nat}{α:Type}(f:α->D)(l:List α)(h:∀x∈l,dg n (f x)):dg (n+1) (.lst (l.map f)):=by
 intro d hd;rw[aN] at hd;obtain⟨x,hx,rfl⟩:=hd;exact h x hx
theorem GK(n:Nat)(l:List (Option Str)):dg (n+1) (dP l):=xC dO l fun x _=>by rw[rA];trivial
theorem GJ(n:Nat)(l:List Str):dg (n+1) (dS l):=xC D.str l fun x _=>by rw[vJ];trivial
theorem PM(c:bN):dg 3 (.lst c.parts):=by
 intro d hd;simp only[bN.parts,ah,aK,or_false] at hd;rcases hd with rfl | rfl | rfl | rfl | rfl | rfl | rfl
 ·exact GK 1 _
 ·exact GK 1 _
 ·exact GJ 1 _
 ·exact GJ 1 _
 ·exact xC lL _ fun x _=>PQ 0 x
 ·exact xC i6 _ fun x _=>PN 0 x
 ·exact xC jj _ fun x _=>Ob 0 x
noncomputable def qN(ns:List Int):Int:=(ns.take 1).sum
theorem K6(o:OV):(R.ov o).sl=.ov o:=rfl
theorem Oa(L:List (Option Str)):(L.filter fun x=>x.isSome).map dO=(L.filterMap id).map D.str:=by
 induction L with
 | nil=>rfl
 | cons a r ih=>cases a<;>simp_all[dO]
end Wc
namespace Wc
open PySem L2
noncomputable def jm:Nat->Int->List Nat
 | 0,_=>[]
 | n+1,c=>(97+(c%26).toNat)::jm n (c/26)
theorem Ij(n:Nat)(c:Int):(jm n c).length=n:=by
 induction n generalizing c with
 | zero=>rfl
 | succ n ih=>simp[jm,ih]
theorem HI(n:Nat)(c:Int):∀x∈jm n c,97<=x/\x<=122:=by
 induction n generalizing c with
 | zero=>intro x hx;cases hx
 | succ n ih=>
  intro x hx;rcases ah.mp hx with rfl | h
  ·have h0:=aH c (show(26:Int)≠0 by decide);have h1:=aJ c (show(0:Int)<26 by decide);omega
  ·exact ih _ x h
noncomputable def Bv:Str:="abcdefghijklmnopqrstuvwxyz"
theorem M9:∀k:Fin 26,fF Bv.cps.toList (k.val:Int)=some (97+k.val):=by decide +kernel
theorem NJ(c:Int):fF Bv.cps.toList (c%26)=some (97+(c%26).toNat):=by
 have h0:=aH c (show(26:Int)≠0 by decide);have h1:=aJ c (show(0:Int)<26 by decide);have:=M9 ⟨(c%26).toNat,by omega⟩;simp only at this;rwa [Int.toNat_of_nonneg h0] at this
def yn:eX:=fun ds Q=>∃(c:Int) (n:Nat),ds=[.int c,.int n]/\n<=1000/\Q (.fz (.str (g8 (jm n c))))
def Dz:TX:=(b8 (df 2 (dC (.str "abcdefghijklmnopqrstuvwxyz")))
 (b8 (df 3 (dC (.str "")))
 (b8 (j8 (nu (bF (bz 1) bQ)) (dy 4) (b8 (df 3 (bE dA (bz 3) (bE cM (bz 2) (bE (oI (fun _ j=>0<j) fun i j=>.int (i%j)) (bz 0) (dC (.int 26))))))
 (df 0 (bE (oI fc fun i j=>.int (i/j)) (bz 0) (dC (.int 26))))))
 (ft (bz 3)))))
theorem RF:jw 2 yn Dz ["_law_cell","_law_size","_law_signs","_law_stem_here","_law_k"]:=by
 intro ds Qr hl h;obtain⟨c,n,rfl,hn,q⟩:=h;show Dz _ [.fz (.int c),.fz (.int n),.un,.un,.un];unfold Dz;walk_at "all";refine ux n (fun Q' h=>?_) (fun i ρ=>∃(c':Int) (acc:List Nat) (k:Sl),ρ=[.fz (.int c'),.fz (.int n),.fz (.str Bv),.fz (.str (g8 acc)),k]/\acc.length=i/\acc++jm (n-i) c'=jm n c) ⟨_,[],_,rfl,rfl,rfl⟩ ?_ ?_
 ·walk_at "all";exact⟨by omega,by omega,by simpa using h⟩
 ·rintro i ρ hi ⟨c',acc,k,rfl,Kp,he⟩;walk_at "all";refine⟨by decide,_,NJ c',?_,_,acc++[97+(c'%26).toNat],_,by rw[tJ,uq],by simp[Kp],?_⟩
  ·rw[lR,tJ,lR,ie];simp;omega
  ·rw[<-he,show n-i=(n-(i+1))+1 by omega,jm];simp
 ·rintro ρ ⟨c',acc,k,rfl,Kp,he⟩;walk_at "all";rw[Nat.sub_self] at he;simp only[jm,aM] at he;rw[he];exact q
end Wc
namespace Wc
open PySem L2
noncomputable def rq(c:Int):List (List Nat):=
 if c/64%3=0 then [104,103,102,101,100,99,98,97].map fun s=>(jm 6 (c/512)).take (c/8%(c%6+1)).toNat++[s]++((jm 6 (c/512)).drop (c/8%(c%6+1)).toNat).take ((c%6).toNat-(c/8%(c%6+1)).toNat)
 else if c/64%3=1 then(List.range 8).map fun k=>(jm 6 (c/512)).take (c%6%4).toNat++[if k/4=0 then 109 else 116]++[if k/2%2=0 then 110 else 117]++[if k%2=0 then 111 else 118]
 else(List.range 6).map (fun k=>(jm 6 (c/512)).take (k+1))++[([if (jm 6 (c/512)).headD 0=97 then 98 else 97]++(jm 6 (c/512)).drop 1).take 1,([if (jm 6 (c/512)).headD 0=97 then 98 else 97]++(jm 6 (c/512)).drop 1).take 3]
noncomputable def zT(i:Int):Int:=(i%1000000000000000000000000+5)*7046029254386353131%1000000000000000000000007
noncomputable def mP(i:Int):List Str:=(rq (zT i)).map g8
structure Words (ws:List Str):Prop where
 len:ws.length=8
 sz:∀w∈ws,1<=w.length/\w.length<=6
 Bv:∀w∈ws,∀x∈w.cps.toList,97<=x/\x<=122
 nd:ws.Nodup
theorem BX(x:Int):∃a b c d e f:Nat,jm 6 x=[a,b,c,d,e,f]/\(97<=a/\a<=122)/\(97<=b/\b<=122)/\(97<=c/\c<=122)/\(97<=d/\d<=122)/\(97<=e/\e<=122)/\(97<=f/\f<=122):=by
 have h:=HI 6 x;simp only[jm,ah,aK,or_false,forall_eq_or_imp,forall_eq] at h;exact⟨_,_,_,_,_,_,by simp only[jm],h.1,h.2.1,h.2.2.1,h.2.2.2.1,h.2.2.2.2.1,h.2.2.2.2.2⟩
theorem HH{l:List (List Nat)}(h:l.Nodup):(l.map g8).Nodup:=by
 unfold List.Nodup at *;rw[List.pairwise_map];exact h.imp fun kP e=>kP (rQ.mp e)
theorem PL(c:Int):(rq c).length=8/\(∀w∈rq c,(1<=w.length/\w.length<=6)/\∀x∈w,97<=x/\x<=122)/\(rq c).Nodup:=by
 have gI:=HI 6 (c/512);have ER:=Ij 6 (c/512);have s0:0<=c%6:=aH _ (by decide);have s1:c%6<6:=aJ _ (by decide);unfold rq;by_cases h0:c/64%3=0
 ·rw[if_pos h0];have t0:0<=c/8%(c%6+1):=aH _ (by omega);have t1:c/8%(c%6+1)<c%6+1:=aJ _ (by omega);generalize c/8%(c%6+1)=at' at *;generalize jm 6 (c/512)=st at *;refine⟨rfl,fun w hw=>?_,?_⟩
  ·rw[aN] at hw;obtain⟨s,hs,rfl⟩:=hw;have tN:97<=s/\s<=122:=by
    simp only[ah,aK,or_false] at hs;omega
   refine⟨?_,fun x hx=>?_⟩
   ·simp only[aj,aP,List.length_drop,aB,bu,ER];omega
   ·simp only[av,aO] at hx;rcases hx with(hx | rfl) | hx
    ·exact gI x (List.mem_of_mem_take hx)
    ·exact tN
    ·exact gI x (List.mem_of_mem_drop (List.mem_of_mem_take hx))
  ·simp[List.append_assoc]
 ·rw[if_neg h0];by_cases h1:c/64%3=1
  ·rw[if_pos h1];have u0:0<=c%6%4:=aH _ (by decide);have u1:c%6%4<4:=aJ _ (by decide);generalize c%6%4=m at *;generalize jm 6 (c/512)=st at *;refine⟨by simp,fun w hw=>?_,?_⟩
   ·rw[aN] at hw;obtain⟨s,hs,rfl⟩:=hw;refine⟨?_,fun x hx=>?_⟩
    ·simp only[aj,aP,List.length_drop,aB,bu,ER];omega
    ·simp only[av,aO] at hx;rcases hx with((hx | rfl) | rfl) | rfl
     ·exact gI x (List.mem_of_mem_take hx)
     ·split<;>omega
     ·split<;>omega
     ·split<;>omega
   ·simp[List.range,List.range.loop,List.append_assoc]
  ·rw[if_neg h1];obtain⟨a,b,c',d,e,f,hs,ha,hb,hc,hd,he,hf⟩:=BX (c/512);rw[hs];have ho:97<=(if a=97 then 98 else 97)/\(if a=97 then 98 else 97)<=122/\(if a=97 then 98 else 97)≠a:=by split<;>omega
   generalize (if a=97 then 98 else 97)=o at ho;refine⟨by simp,?_,?_⟩
   ·intro w hw;simp[List.range,List.range.loop] at hw;rcases hw with rfl | rfl | rfl | rfl | rfl | rfl | rfl | rfl<;>(refine⟨by simp,fun x hx=>?_⟩)<;>simp at hx<;>(try split at hx)<;>omega
   ·have:¬a=o:=fun z=>ho.2.2 z.symm
    simp[List.range,List.range.loop];split<;>omega
theorem PK(c:Int):(rq c).length=8/\(rq c).Nodup:=by
 unfold rq;by_cases h0:c/64%3=0
 ·rw[if_pos h0];exact⟨rfl,by simp[List.append_assoc]⟩
 ·rw[if_neg h0];by_cases h1:c/64%3=1
  ·rw[if_pos h1];exact⟨by simp,by simp[List.range,List.range.loop,List.append_assoc]⟩
  ·rw[if_neg h1];obtain⟨a,b,c',d,e,f,hs,_⟩:=BX (c/512);rw[hs];have ho:(if a=97 then 98 else 97)≠a:=by split<;>omega
   generalize (if a=97 then 98 else 97)=o at ho;refine⟨by simp,?_⟩;have:¬a=o:=fun z=>ho z.symm
   simp[List.range,List.range.loop];split<;>omega
theorem PJ(i:Int):(mP i).length=8/\(mP i).Nodup:=by
 obtain⟨h1,h3⟩:=PK (zT i);exact⟨by simp[mP,h1],HH h3⟩
theorem PH(i:Int):Words (mP i):=by
 obtain⟨h1,h2,h3⟩:=PL (zT i);refine⟨by simp[mP,h1],fun w hw=>?_,fun w hw=>?_,HH h3⟩
 ·unfold mP at hw;rw[aN] at hw;obtain⟨l,hl,rfl⟩:=hw;rw[lR];exact(h2 l hl).1
 ·unfold mP at hw;rw[aN] at hw;obtain⟨l,hl,rfl⟩:=hw;rw[xG];exact(h2 l hl).2
def vX:eX:=fun ds Q=>∃i:Int,ds=[.int i]/\Q (.ow ((mP i).map .str))
def DM:TX:=(b8 (df 0 (bE (oI (fun _ j=>0<j) fun i j=>.int (i%j)) (bE (oI iK fun i j=>.int (i*j)) (bE dA (bE (oI (fun _ j=>0<j) fun i j=>.int (i%j)) (bz 0) (bE (oI qw fun i j=>.int (i ^ j.toNat)) (dC (.int 10)) (dC (.int 24)))) (dC (.int 5))) (dC (.int 7046029254386353131))) (bE dA (bE (oI qw fun i j=>.int (i ^ j.toNat)) (dC (.int 10)) (dC (.int 24))) (dC (.int 7)))))
 (b8 (df 1 (bE (oI (fun _ j=>0<j) fun i j=>.int (i%j)) (bz 0) (dC (.int 6))))
 (b8 (df 2 (fq 2 yn (bF (bE (oI fc fun i j=>.int (i/j)) (bz 0) (dC (.int 512))) (bF (dC (.int 6)) bQ))))
 (b8 (df 3 (bE (oI (fun _ j=>0<j) fun i j=>.int (i%j)) (bE (oI fc fun i j=>.int (i/j)) (bz 0) (dC (.int 8))) (bE dA (bz 1) (dC (.int 1)))))
 (b8 (eO (cL (bE oEq (bE (oI (fun _ j=>0<j) fun i j=>.int (i%j)) (bE (oI fc fun i j=>.int (i/j)) (bz 0) (dC (.int 64))) (dC (.int 3))) (dC (.int 0)))) (ft (hJ (iS (dC (.str "hgfedcba"))) [none,some 2,some 3,some 1] (dy 0) lF (bE dA (bE dA (jN (bz 1) kX (iT (bz 2))) (bz 0)) (jN (bz 1) (iT (bz 2)) (iT (bz 3)))))) fb)
 (b8 (eO (cL (bE oEq (bE (oI (fun _ j=>0<j) fun i j=>.int (i%j)) (bE (oI fc fun i j=>.int (i/j)) (bz 0) (dC (.int 64))) (dC (.int 3))) (dC (.int 1)))) (ft (hJ (nu (bF (dC (.int 8)) bQ)) [none,some 2,some 1] (dy 0) lF (bE dA (bE dA (bE dA (jN (bz 1) kX (iT (bE (oI (fun _ j=>0<j) fun i j=>.int (i%j)) (bz 2) (dC (.int 4))))) (bE cM (dC (.str "mt")) (bE (oI fc fun i j=>.int (i/j)) (bz 0) (dC (.int 4))))) (bE cM (dC (.str "nu")) (bE (oI (fun _ j=>0<j) fun i j=>.int (i%j)) (bE (oI fc fun i j=>.int (i/j)) (bz 0) (dC (.int 2))) (dC (.int 2))))) (bE cM (dC (.str "ov")) (bE (oI (fun _ j=>0<j) fun i j=>.int (i%j)) (bz 0) (dC (.int 2))))))) fb)
 (b8 (df 4 (bE dA (bE cM (dC (.str "ab")) (ek zO (bF (bE oEq (bE cM (bz 2) (dC (.int 0))) (dC (.str "a"))) bQ))) (jN (bz 2) (iT (dC (.int 1))) kX)))
 (ft (bE dA (hJ (nu (bF (dC (.int 6)) bQ)) [none,some 2] (dy 0) lF (jN (bz 1) kX (iT (bE dA (bz 0) (dC (.int 1)))))) (fX (bF (jN (bz 4) kX (iT (dC (.int 1)))) (bF (jN (bz 4) kX (iT (dC (.int 3)))) bQ))))))))))))
theorem LQ:(Str.ofString "hgfedcba").cps.toList=[104,103,102,101,100,99,98,97]:=by decide +kernel
theorem K5(k:Nat)(h:k<8):fF (Str.ofString "mt").cps.toList ((k:Int)/4)=some (if k/4=0 then 109 else 116):=by
 have:∀k:Fin 8,fF (Str.ofString "mt").cps.toList ((k.val:Int)/4)=some (if k.val/4=0 then 109 else 116):=by decide +kernel
 exact this ⟨k,h⟩
theorem KZ(k:Nat)(h:k<8):fF (Str.ofString "nu").cps.toList ((k:Int)/2%2)=some (if k/2%2=0 then 110 else 117):=by
 have:∀k:Fin 8,fF (Str.ofString "nu").cps.toList ((k.val:Int)/2%2)=some (if k.val/2%2=0 then 110 else 117):=by decide +kernel
 exact this ⟨k,h⟩
theorem KY(k:Nat)(h:k<8):fF (Str.ofString "ov").cps.toList ((k:Int)%2)=some (if k%2=0 then 111 else 118):=by
 have:∀k:Fin 8,fF (Str.ofString "ov").cps.toList ((k.val:Int)%2)=some (if k.val%2=0 then 111 else 118):=by decide +kernel
 exact this ⟨k,h⟩
theorem RU:jw 1 vX DM ["_law_cell","_law_size","_law_stem_here","_law_at","_law_other"]:=by
 intro ds Qr hl h;obtain⟨i,rfl,q⟩:=h;show DM _ [.fz (.int i),.un,.un,.un,.un];unfold DM;walk_at "all";unfold mP rq zT at q;generalize (i%1000000000000000000000000+5)*7046029254386353131%1000000000000000000000007=c at q ⊢;have s0:0<=c%6:=aH _ (by decide);have s1:c%6<6:=aJ _ (by decide);refine⟨c/512,6,rfl,by decide,by omega,?_⟩;have t0:0<=c/8%(c%6+1):=aH _ (by omega);have t1:c/8%(c%6+1)<c%6+1:=aJ _ (by omega);have ER:=Ij 6 (c/512);have big:=ie;by_cases h0:c/64%3=0
 ·rw[if_pos h0] at q;rw[if_pos h0];refine qH [104,103,102,101,100,99,98,97] (fun c=>.str ⟨#[c]⟩) (fun s=>.str (g8 ((jm 6 (c/512)).take (c/8%(c%6+1)).toNat++[s]++((jm 6 (c/512)).drop (c/8%(c%6+1)).toNat).take ((c%6).toNat-(c/8%(c%6+1)).toNat)))) (fun Q' h=>?_) (by decide) (fun s hs K1 k=>?_) ?_
  ·walk_at "all";rw[LQ];exact h
  ·walk_at "all";rw[xF _ t0,Oc _ t0 s0,tJ,uq,uq];refine⟨by rw[lR];omega,?_,by rw[lR];omega,?_,k⟩
   ·simp only[lR,aP,aB,bu];omega
   ·simp only[lR,aj,aP,List.length_drop,aB,bu];omega
  ·exact q
 ·rw[if_neg h0] at q;rw[if_neg h0];by_cases h1:c/64%3=1
  ·rw[if_pos h1] at q;rw[if_pos h1];have u0:0<=c%6%4:=aH _ (by decide);refine qH (List.range 8) (fun(i:Nat)=>.int (0+i)) (fun k=>.str (g8 ((jm 6 (c/512)).take (c%6%4).toNat++[if k/4=0 then 109 else 116]++[if k/2%2=0 then 110 else 117]++[if k%2=0 then 111 else 118]))) (fun Q' h=>?_) (by decide) (fun s hs K1 k=>?_) ?_
   ·walk_at "all";exact h
   ·have Ez:s<8:=by simpa using hs
    rw[Int.zero_add];walk_at "all";rw[xF _ u0];refine⟨by rw[lR];omega,by decide,_,K5 s Ez,?_,by decide,_,KZ s Ez,?_,by decide,_,KY s Ez,?_,?_⟩
    ·simp only[lR,tJ,aP,aB,bu];omega
    ·simp only[lR,tJ,uq,aj,aP,aB,bu];omega
    ·simp only[lR,tJ,uq,aj,aP,aB,bu];omega
    ·simp only[tJ,uq];exact k
   ·rw[br] at q;exact q
  ·rw[if_neg h1] at q;rw[if_neg h1];obtain⟨a,b,c',d,e,f,hs,ha,hb,hc,hd,he,hf⟩:=BX (c/512);rw[hs] at q ⊢;have zx:fF (g8 [a,b,c',d,e,f]).cps.toList 0=some a:=by rw[xG];rfl
   refine⟨by rw[lR];simp;omega,a,zx,?_⟩;have ho:fF (Str.ofString "ab").cps.toList (if (⟨#[a]⟩:Str)=Str.ofString "a" then 1 else 0)=some (if a=97 then 98 else 97):=by
    by_cases Fs:a=97
    ·subst Fs;decide +kernel
    ·have:¬((⟨#[a]⟩:Str)=Str.ofString "a"):=by
      intro z;have z2:(⟨#[a]⟩:Str).cps.toList=(Str.ofString "a").cps.toList:=by rw[z]
      have z3:(Str.ofString "a").cps.toList=[97]:=by decide +kernel
      rw[z3] at z2;simp at z2;exact Fs z2
     rw[if_neg this,if_neg Fs];decide +kernel
   refine⟨by decide,_,ho,?_⟩;walk_at "all";rw[PR _ (by decide),tJ,uq];refine⟨by rw[lR];simp;omega,by simp only[lR];simp;omega,?_⟩;refine qH (List.range 6) (fun(i:Nat)=>.int (0+i)) (fun k=>.str (g8 ([a,b,c',d,e,f].take (k+1)))) (fun Q' h=>?_) (by decide) (fun s hs K1 k=>?_) ?_
   ·walk_at "all";exact h
   ·walk_at "all";rw[xF _ (by omega),show(0+(s:Int)+1).toNat=s+1 by omega];exact⟨by rw[lR];simp;omega,k⟩
   ·walk_at "all";rw[xF _ (by decide),xF _ (by decide)];refine⟨by rw[lR];simp;omega,by rw[lR];simp;omega,by decide,by simp;omega,?_⟩;simp only[aE,br,au,List.map_nil] at q;exact q
end Wc
namespace Wc
open PySem L2
def ym:eX:=fun ds Q=>∃(ws:List Str) (cells:List Int) (cY:Int) (W:Nat),ds=[dS ws,dI cells,.int cY,.int W]/\ws.length=8/\W<=40/\
 ∀top bw:List (Option Str),top.length=W->bw.length=W->gf ws top->gf ws bw->Q (.fz (.tup [dP top,dP bw]))
def Dy:TX:=(b8 (mH 4 (fX bQ))
 (b8 (mH 5 (fX bQ))
 (b8 (j8 (nu (bF (bz 3) bQ)) (dy 6) (b8 (mH 7 (fX bQ))
 (b8 (j8 (nu (bF (dC (.int 2)) bQ)) (dy 8) (b8 (df 9 (bE dA (bE (oI iK fun i j=>.int (i*j)) (dC (.int 2)) (bz 6)) (bz 8)))
 (b8 (df 10 (fq 2 oY (bF (bz 2) (bF (bz 9) bQ))))
 (b8 (eO (cL (bE (gM fun i j=>.bl (decide (i<j))) (bz 9) (ek jY (bF (bz 1) bQ)))) (df 10 (fq 2 oY (bF (bE cM (bz 1) (bz 9)) (bF (bz 9) bQ)))) fb)
 (kG 7 (bE cM (fX (bF (bE cM (bz 0) (bE (oI (fun _ j=>0<j) fun i j=>.int (i%j)) (bz 10) (dC (.int 8)))) (bF (bE cM (bz 0) (bE (oI (fun _ j=>0<j) fun i j=>.int (i%j)) (bE (oI fc fun i j=>.int (i/j)) (bz 10) (dC (.int 8))) (dC (.int 3)))) (bF (bE cM (bz 0) (bE (oI (fun _ j=>0<j) fun i j=>.int (i%j)) (bE (oI fc fun i j=>.int (i/j)) (bz 10) (dC (.int 8))) (dC (.int 5)))) (bF (dC .non) bQ))))) (bE (oI (fun _ j=>0<j) fun i j=>.int (i%j)) (bE (oI fc fun i j=>.int (i/j)) (bz 10) (dC (.int 64))) (dC (.int 4)))))))))
 (b8 (kG 4 (vj 7 (dC (.int 0))))
 (kG 5 (vj 7 (dC (.int 1))))))))
 (qZ 5 (qZ 4 (ft (gq (bF (bz 4) (bF (bz 5) bQ)))))))))
theorem CK(ws:List Str):gf ws []:=fun w h=>by cases h
theorem De{ws:List Str}{l:List (Option Str)}{x:Option Str}(h:gf ws l)(hx:∀w,x=some w->w∈ws):gf ws (l++[x]):=fun w hw=>by
 rcases av.mp hw with h1 | h1
 ·exact h w h1
 ·exact hx w (aO.mp h1).symm
theorem RE:jw 4 ym Dy ["_law_words","_law_cells","_law_seed","_law_width","_law_top","_law_bottom","_law_c","_law_row","_law_side","_law_k","_law_one"]:=by
 intro ds Qr hl h;obtain⟨ws,cells,cY,W,rfl,kO,hW,q⟩:=h;show Dy _ [.fz (dS ws),.fz (dI cells),.fz (.int cY),.fz (.int W),.un,.un,.un,.un,.un,.un,.un];unfold Dy;have big:=ie;walk_at "px";refine⟨by omega,?_⟩;walk_at "go";refine⟨by omega,?_⟩;walk_at "go";refine ux W (fun Q' h=>?_) (fun i ρ=>∃(top bw:List (Option Str)) (a b c d e:Sl),ρ=[.fz (dS ws),.fz (dI cells),.fz (.int cY),.fz (.int W),.ow (top.map dO),.ow (bw.map dO),a,b,c,d,e]/\top.length=i/\bw.length=i/\gf ws top/\gf ws bw) ⟨[],[],_,_,_,_,_,rfl,rfl,rfl,CK _,CK _⟩ ?_ ?_
 ·walk_at "px";exact⟨by omega,by omega,by simpa using h⟩
 ·rintro i ρ hi ⟨top,bw,a,b,c,d,e,rfl,ht,hb,pt,pb⟩;walk_at "px";refine⟨by omega,?_⟩;walk_at "go";refine ux 2 (fun Q' h=>?_) (fun j ρ=>∃(row:List (Option Str)) (c d e:Sl),ρ=[.fz (dS ws),.fz (dI cells),.fz (.int cY),.fz (.int W),.ow (top.map dO),.ow (bw.map dO),.fz (.int i),.ow (row.map dO),c,d,e]/\row.length=j/\gf ws row) ⟨[],_,_,_,rfl,rfl,CK _⟩ ?_ ?_
  ·walk_at "px";exact h
  ·rintro j ρ hj ⟨row,c,d,e,rfl,hr,pr⟩;walk_at "px";walk_at "go";have k0:(0:Int)<=2*(i:Int)+j:=by omega
   have k1:2*(i:Int)+j<=1000000:=by omega
   refine⟨cY,_,rfl,k0,k1,?_⟩;walk_at "go";unfold dI;walk_at "px";split
   focus
    rename_i hc;rw[ae] at hc;obtain⟨z,hz,_⟩:=Cp (l:=cells) k0 hc;refine⟨z,hz,z,_,rfl,k0,k1,?_⟩
   all_goals
    generalize ub _ _=one;walk_at "go";unfold dS;walk_at "px";obtain⟨z1,h1,m1⟩:=KJ one kO;obtain⟨z2,h2,m2⟩:=VC (one/8) kO;obtain⟨z3,h3,m3⟩:=VB (one/8) kO;refine⟨z1,h1,z2,h2,z3,h3,by omega,?_⟩;have h4:=z9 (l:=[some z1,some z2,some z3,none]) (n:=4) (one/64) (by simp) (by decide);obtain⟨z,hz,mz⟩:=h4;refine⟨dO z,?_,by simp;omega,row++[z],_,_,_,by rw[aE];rfl,by simp[hr],De pr ?_⟩
    ·have:=congrArg (Option.map dO) hz;rw[<-Cq] at this;exact this
    ·intro w hw;subst hw;simp only[ah,Option.some.injEq,aK,or_false,reduceCtorEq] at mz;rcases mz with rfl | rfl | rfl
     ·exact m1
     ·exact m2
     ·exact m3
  ·rintro ρ ⟨row,c,d,e,rfl,hr,pr⟩;obtain⟨x,y,rfl⟩:∃x y,row=[x,y]:=by
    match row,hr with
    | [x,y],_=>exact⟨x,y,rfl⟩
   walk_at "go";refine⟨dO x,rfl,by simp;omega,?_⟩;walk_at "go";refine⟨dO y,rfl,by simp;omega,top++[x],bw++[y],_,_,_,_,_,by rw[aE,aE];rfl,by simp[ht],by simp[hb],De pt fun w hw=>pr w (by simp[hw]),De pb fun w hw=>pr w (by simp[hw])⟩
 ·rintro ρ ⟨top,bw,a,b,c,d,e,rfl,ht,hb,pt,pb⟩;walk_at "go";exact⟨by omega,q top bw ht hb pt pb⟩
noncomputable def fS(top bw:List (Option Str))(left right:List Str)(w:Str):Nat:=top.count (some w)+bw.count (some w)+left.count w+right.count w
def v8:eX:=fun ds Q=>∃(top bw:List (Option Str)) (left right:List Str) (w:Str),ds=[dP top,dP bw,dS left,dS right,.str w]/\top.length+bw.length+left.length+right.length<=100000/\Q (.fz (.int (fS top bw left right w)))
def Dx:TX:=(b8 (df 5 (bE dA (bE dA (bE dA (bz 0) (bz 1)) (bz 2)) (bz 3)))
 (ft (dM "list" xt (bz 5) (bF (bz 4) bQ))))
theorem GI(w:Str)(l:List (Option Str)):mF (.str w) (l.map dO)=l.count (some w):=by
 unfold mF;rw[List.countP_map,List.count];congr 1
 funext x
 simp only[Function.comp_apply,tj];rw[vI]
theorem GH(w:Str)(l:List Str):mF (.str w) (l.map D.str)=l.count w:=by
 unfold mF;rw[List.countP_map,List.count];congr 1
theorem CJ(d:D)(a b:List D):mF d (a++b)=mF d a+mF d b:=by unfold mF;exact List.countP_append
theorem RD:jw 5 v8 Dx ["_law_top","_law_bottom","_law_left","_law_right","_law_word","_law_some"]:=by
 intro ds Qr hl h;obtain⟨top,bw,left,right,w,rfl,hz,q⟩:=h;show Dx _ [.fz (dP top),.fz (dP bw),.fz (dS left),.fz (dS right),.fz (.str w),.un];unfold Dx;have big:=ie;unfold dP dS;walk_at "px";refine⟨by simp;omega,by simp;omega,by simp;omega,?_⟩;walk_at "go";refine⟨rfl,?_,?_⟩
 ·intro e he;simp only[av] at he;rcases he with((he | he) | he) | he
  ·exact vL 8 top e he
  ·exact vL 8 bw e he
  ·exact qG 8 left e he
  ·exact qG 8 right e he
 ·rw[CJ,CJ,CJ,GI,GI,GH,GH];exact q
theorem zN(l:List Int)(a:Int):l.map D.int++[D.int a]=(l++[a]).map D.int:=by simp
noncomputable def places(top bw:List (Option Str))(left right:List Str)(w:Str):List Int:=
 (((List.range top.length).filter fun c=>top[c]?==some (some w)||bw[c]?==some (some w)).map fun(c:Nat)=>(c:Int))++(if w∈left then [-1] else [])++(if w∈right then [(top.length:Int)] else [])
def qp(m:Int)(l:List Int):Prop:=m∈l/\∀a∈l,m<=a
def qr(m:Int)(l:List Int):Prop:=m∈l/\∀a∈l,a<=m
def wb:eX:=fun ds Q=>∃(top bw:List (Option Str)) (left right:List Str) (w:Str),ds=[dP top,dP bw,dS left,dS right,.str w]/\bw.length=top.length/\top.length<=100/\left.length<=100/\right.length<=100/\
 ∀m M,qp m (places top bw left right w++[99])->qr M (places top bw left right w++[-9])->Q (.fz (.tup [.int m,.int M]))
def DK:TX:=(b8 (mH 5 (hJ (nu (bF (ek jY (bF (bz 0) bQ)) bQ)) [none,some 4,some 0,some 1] (dy 0) (cL (bE (jv false) (bz 1) (fX (bF (bE cM (bz 2) (bz 0)) (bF (bE cM (bz 3) (bz 0)) bQ))))) (bz 0)))
 (b8 (eO (cL (bE (jv false) (bz 4) (bz 2))) (kG 5 (xh (dC (.int 1)))) fb)
 (b8 (eO (cL (bE (jv false) (bz 4) (bz 3))) (kG 5 (ek jY (bF (bz 0) bQ))) fb)
 (qZ 5 (ft (gq (bF (ek sL (bF (bE dA (bz 5) (fX (bF (dC (.int 99)) bQ))) bQ)) (bF (ek vi (bF (bE dA (bz 5) (fX (bF (xh (dC (.int 9))) bQ))) bQ)) bQ))))))))
theorem Su:jw 5 wb DK ["_law_top","_law_bottom","_law_left","_law_right","_law_word","_law_places"]:=by
 intro ds Qr hl h;obtain⟨top,bw,left,right,w,rfl,hb,ht,ET,hr,q⟩:=h;show DK _ [.fz (dP top),.fz (dP bw),.fz (dS left),.fz (dS right),.fz (.str w),.un];unfold DK;have big:=ie;unfold dP dS;walk_at "px";refine rK (List.range top.length) (fun(i:Nat)=>.int (0+i)) (fun(i:Nat)=>.int i) (fun c=>top[c]?==some (some w)||bw[c]?==some (some w)) (fun Q' h=>?_) (by simp;omega) (fun c hc K1 K0 k1 k0=>?_) ?_
 ·walk_at "px";rw[ae];exact⟨by omega,by omega,by simpa using h⟩
 ·have pY:c<top.length:=by simpa using hc
  rw[Int.zero_add];walk_at "px";refine⟨_,kJ pY,_,kJ (l:=bw) (by omega),by omega,?_,?_⟩
  ·intro e he;simp only[ah,aK,or_false] at he;rcases he with rfl | rfl<;>(rw[rA];trivial)
  ·have e1:inD (.str w) [dO top[c],dO bw[c]]=(top[c]?==some (some w)||bw[c]?==some (some w)):=by
    unfold inD;simp only[List.any_cons,List.any_nil,Bool.or_false,tj];rw[ao pY,ao (l:=bw) (by omega),vI,vI];simp
   rw[e1];cases hb:(top[c]?==some (some w)||bw[c]?==some (some w)) with
   | true=>exact k1 hb
   | false=>exact k0 hb
 ·have e:∀L:List Nat,(L.map fun(i:Nat)=>D.int i)=(L.map (fun(c:Nat)=>(c:Int))).map D.int:=fun L=>by simp
  rw[e];have hlen:(((List.range top.length).filter fun c=>top[c]?==some (some w)||bw[c]?==some (some w)).map fun(c:Nat)=>(c:Int)).length<=100:=by
   rw[ae];refine aT (List.length_filter_le _ _) ?_;simp;omega
  unfold places at q;generalize (((List.range top.length).filter fun c=>top[c]?==some (some w)||bw[c]?==some (some w)).map fun(c:Nat)=>(c:Int))=base at q hlen ⊢;walk_at "go";refine⟨qG 8 left,?_⟩;rw[sP];by_cases h1:w∈left<;>by_cases h2:w∈right
  all_goals
   simp only[h1,h2,bh,aX,aM] at q;simp only[h1,decide_true,decide_false,bh,ay,aX];try(refine⟨by simp;omega,?_⟩)
   walk_at "go";refine⟨qG 8 right,?_⟩;rw[sP];simp only[h2,decide_true,decide_false,bh,ay,aX];try(refine⟨by simp;omega,?_⟩)
   try simp only[zN,ae]
   walk_at "go";refine⟨by omega,by simp;omega,?_⟩;try simp only[zN,sL,vi,xY]
   refine⟨by simp,fun m pU jJ=>?_⟩;refine⟨by omega,by simp;omega,?_⟩;try simp only[zN,xY]
   refine⟨by simp,fun M Fp Fo=>?_⟩;exact⟨by omega,q m M ⟨by simpa using pU,by simpa using jJ⟩ ⟨by simpa using Fp,by simpa using Fo⟩⟩
end Wc
namespace Wc
open PySem L2 PyProof.Rows
structure gW (top bw:List (Option Str)) (left right ws:List Str) (bH:List (Int×Str)):Prop where
 len:bH.length<=top.length
 up:bH.Pairwise fun a b=>a.1<b.1
 at_:∀p∈bH,∃n:Nat,p.1=n/\n<top.length/\p.2∈ws/\(∃m M,qp m (places top bw left right p.2++[99])/\qr M (places top bw left right p.2++[-9])/\m<p.1/\p.1<M)/\((top[n]?=some none/\bw[n]?=some none)\/top[n]?=some (some p.2)\/bw[n]?=some (some p.2))
def yi:eX:=fun ds Q=>∃(top bw:List (Option Str)) (left right ws:List Str) (cells:List Int) (cY:Int),ds=[.lst [dP top,dP bw,dS left,dS right],dS ws,dI cells,.int cY]/\bw.length=top.length/\top.length<=40/\left.length<=100/\right.length<=100/\ws.length=8/\gf ws top/\cells.length<=1000/\
 ∀bH,gW top bw left right ws bH->Q (.ow (bH.map i6))
def DL:TX:=(b8 (rg (bz 0) (vh 4 (fZ (dy 4) (fZ (dy 5) (fZ (dy 6) (fZ (dy 7) jZ))))))
 (b8 (mH 8 (fX bQ))
 (b8 (j8 (nu (bF (ek jY (bF (bz 4) bQ)) bQ)) (dy 9) (b8 (df 10 (fq 2 oY (bF (bE cM (bE dA (bz 2) (fX (bF (bz 3) bQ))) (bE (oI (fun _ j=>0<j) fun i j=>.int (i%j)) (bz 9) (bE dA (ek jY (bF (bz 2) bQ)) (dC (.int 1))))) (bF (bE dA (bz 9) (dC (.int 200))) bQ))))
 (b8 (df 11 (bE cM (bz 1) (bE (oI (fun _ j=>0<j) fun i j=>.int (i%j)) (bz 10) (dC (.int 8)))))
 (b8 (eO (qt (cL (bE oEq (bE (oI (fun _ j=>0<j) fun i j=>.int (i%j)) (bE (oI fc fun i j=>.int (i/j)) (bz 10) (dC (.int 8))) (dC (.int 3))) (dC (.int 0)))) (cL (bE (pq true) (bE cM (bz 4) (bz 9)) (dC .non)))) (df 11 (bE cM (bz 4) (bz 9))) fb)
 (b8 (rg (fq 5 wb (bF (bz 4) (bF (bz 5) (bF (bz 6) (bF (bz 7) (bF (bz 11) bQ)))))) (mG 2 (fZ (dy 12) (fZ (dy 13) jZ))))
 (b8 (df 14 (hJ (iS (fX (bF (bE cM (bz 4) (bz 9)) (bF (bE cM (bz 5) (bz 9)) bQ)))) [none] (dy 0) (cL (bE (pq true) (bz 0) (dC .non))) (bz 0)))
 (eO (qt (cL (bE (gM fun i j=>.bl (decide (i<j))) (bz 12) (bz 9))) (qt (cL (bE (gM fun i j=>.bl (decide (i<j))) (bz 9) (bz 13))) (qt (sD (cL (bE oEq (bz 14) (fX bQ))) (cL (bE (jv false) (bz 11) (bz 14)))) (cL (bE (gM fun i j=>.bl (decide (j<i))) (bE (oI (fun _ j=>0<j) fun i j=>.int (i%j)) (bE (oI fc fun i j=>.int (i/j)) (bz 10) (dC (.int 24))) (dC (.int 3))) (dC (.int 0))))))) (kG 8 (gq (bF (bz 9) (bF (bz 11) bQ)))) fb)))))))
 (ue 8))))
theorem N9(l:List D):lP l []=l.isEmpty:=by cases l<;>simp[lP]
theorem RT:jw 4 yi DL ["_law_lists","_law_words","_law_cells","_law_seed","_law_top","_law_bottom","_law_left","_law_right","_law_bends_here","_law_c","_law_one","_law_word","_law_l","_law_r","_law_here"]:=by
 intro ds Qr hl h;obtain⟨top,bw,left,right,ws,cells,cY,rfl,hb,ht,ET,hr,kO,pt,zr,q⟩:=h;show DL _ [.fz (.lst [dP top,dP bw,dS left,dS right]),.fz (dS ws),.fz (dI cells),.fz (.int cY),.un,.un,.un,.un,.un,.un,.un,.un,.un,.un,.un];unfold DL;have big:=ie;walk_at "px";walk_at "go";refine⟨by omega,?_⟩;walk_at "go";refine ux top.length (fun Q' h=>?_) (fun i ρ=>∃(bH:List (Int×Str)) (a b c d e f:Sl),ρ=[.fz (.lst [dP top,dP bw,dS left,dS right]),.fz (dS ws),.fz (dI cells),.fz (.int cY),.fz (dP top),.fz (dP bw),.fz (dS left),.fz (dS right),.ow (bH.map i6),a,b,c,d,e,f]/\gW top bw left right ws bH/\(∀p∈bH,p.1<i)/\bH.length<=i) ⟨[],_,_,_,_,_,_,rfl,⟨by simp,by simp,by simp⟩,by simp,by simp⟩ ?_ ?_
 ·unfold dP;walk_at "px";rw[ae];exact⟨by omega,by omega,by simpa using h⟩
 ·rintro i ρ hi ⟨bH,a,b,c,d,e,f,rfl,bo,lt,ln⟩;unfold dI;walk_at "px";rw[ae];refine⟨by omega,by omega,by omega,?_⟩;have m0:0<=(i:Int)%((cells.length:Int)+1):=aH _ (by omega);have m1:(i:Int)%((cells.length:Int)+1)<(cells.length:Int)+1:=aJ _ (by omega);rw[zN];obtain⟨z,hz,_⟩:=Cp (l:=cells++[cY]) m0 (by simp;omega);rw[GN];refine⟨z,hz,z,_,rfl,by omega,by omega,?_⟩;generalize ub _ _=one;unfold dS;walk_at "go";obtain⟨z1,h1,JO⟩:=KJ one kO;refine⟨z1,h1,?_⟩;unfold dP;walk_at "go";have zx:top[i]?=some top[i]:=ao hi;have kP:bw[i]?=some bw[i]:=ao (by omega);have key:∃w:Str,w∈ws/\∀K:D->Prop,K (.str w)->(if one/8%3=0 then ∃x,fF top (i:Int)=some x/\(if (!uf (dO x))=true then ∃x,fF top (i:Int)=some x/\K (dO x) else K (.str z1)) else K (.str z1)):=by
   by_cases hc:one/8%3=0
   ·cases hx:top[i] with
    | none=>exact⟨z1,JO,fun K k=>by rw[if_pos hc];exact⟨none,by rw[kJ hi,hx],by simpa[dO,uf] using k⟩⟩
    | some w=>
     refine⟨w,pt w (by rw[<-hx];exact List.getElem_mem hi),fun K k=>?_⟩;rw[if_pos hc];exact⟨some w,by rw[kJ hi,hx],by simp only[dO,uf,Bool.not_false,bh];exact⟨some w,by rw[kJ hi,hx],k⟩⟩
   ·exact⟨z1,JO,fun K k=>by rw[if_neg hc];exact k⟩
  obtain⟨w,hw,kw⟩:=key;refine kw (fun d=>mM _ _ [_,_,_,_,_,_,_,_,_,_,_,.fz d,_,_,_]) ?_;walk_at "go";refine⟨top,bw,left,right,w,rfl,hb,by omega,ET,hr,fun m M hm hM=>?_⟩;walk_at "go";refine rK [top[i],bw[i]] dO dO (fun x=>x.isSome) (fun Q' h=>?_) (by simp;omega) (fun c hc K1 K0 k1 k0=>?_) ?_
  ·walk_at "px";exact⟨_,kJ hi,_,kJ (l:=bw) (by omega),by omega,h⟩
  ·walk_at "px";cases c with
   | none=>exact k0 rfl
   | some x=>exact k1 rfl
  ·walk_at "go";have skip:∀(a b c d e f:Sl) (X Y Z:D),∃(f9:List (Int×Str)) (a' b' c' d' e' f':Sl),[Sl.fz (D.lst [D.lst (List.map dO top),D.lst (List.map dO bw),D.lst (List.map D.str left),D.lst (List.map D.str right)]),Sl.fz (D.lst (List.map D.str ws)),Sl.fz (D.lst (List.map D.int cells)),Sl.fz (D.int cY),Sl.fz (D.lst (List.map dO top)),Sl.fz (D.lst (List.map dO bw)),Sl.fz (D.lst (List.map D.str left)),Sl.fz (D.lst (List.map D.str right)),Sl.ow (List.map i6 bH),a,b,c,d,e,f]=[Sl.fz (D.lst [D.lst (List.map dO top),D.lst (List.map dO bw),D.lst (List.map D.str left),D.lst (List.map D.str right)]),Sl.fz (D.lst (List.map D.str ws)),Sl.fz (D.lst (List.map D.int cells)),Sl.fz (D.int cY),Sl.fz (D.lst (List.map dO top)),Sl.fz (D.lst (List.map dO bw)),Sl.fz (D.lst (List.map D.str left)),Sl.fz (D.lst (List.map D.str right)),Sl.ow (List.map i6 f9),a',b',c',d',e',f']/\gW top bw left right ws f9/\(∀p∈f9,p.1<((i+1:Nat):Int))/\f9.length<=i+1:=
    fun a b c d e f _ _ _=>⟨bH,a,b,c,d,e,f,rfl,bo,fun p hp=>by have:=lt p hp;omega,by omega⟩
   have kZ:some w∈[top[i],bw[i]].filter (fun x=>x.isSome)↔top[i]=some w\/bw[i]=some w:=by
    simp only[bf,ah,aK,or_false,Option.isSome_some,and_true];constructor
    ·rintro(h | h)
     ·exact .inl h.symm
     ·exact .inr h.symm
    ·rintro(h | h)
     ·exact .inl h.symm
     ·exact .inr h.symm
   have sm:([top[i],bw[i]].filter (fun x=>x.isSome)=[])->top[i]=none/\bw[i]=none:=by
    intro h;rw[List.filter_eq_nil_iff] at h;exact⟨by simpa using h top[i] (by simp),by simpa using h bw[i] (by simp)⟩
   generalize [top[i],bw[i]].filter (fun x=>x.isSome)=here at kZ sm ⊢;split
   ·rename_i c1;split
    ·rename_i c2;refine⟨by omega,dg.mono (n:=1) (by omega) (by intro d hd;exact vL 0 here d hd),dg.mono (n:=1) (by omega) (by intro d hd;cases hd),?_⟩;have fin:(top[i]=none/\bw[i]=none)\/top[i]=some w\/bw[i]=some w->gW top bw left right ws (bH++[((i:Int),w)]):=fun hp=>by
      refine⟨by simp;omega,?_,?_⟩
      ·rw[List.pairwise_append];refine⟨bo.up,by simp,fun a ha b hb=>?_⟩;have:b=((i:Int),w):=by simpa using hb
       subst this;exact lt a ha
      ·intro p wu;rcases av.mp wu with h | h
       ·exact bo.at_ p h
       ·have:p=((i:Int),w):=by simpa using h
        subst this;refine⟨i,rfl,hi,hw,⟨m,M,hm,hM,c1,c2⟩,?_⟩;rw[zx,kP];simpa using hp
     have put:(top[i]=none/\bw[i]=none)\/top[i]=some w\/bw[i]=some w->2<=sizeLine/\(List.map i6 bH).length<sizeLine/\∃(f9:List (Int×Str)) (a' b' c' d' e' f':Sl),[Sl.fz (D.lst [D.lst (List.map dO top),D.lst (List.map dO bw),D.lst (List.map D.str left),D.lst (List.map D.str right)]),Sl.fz (D.lst (List.map D.str ws)),Sl.fz (D.lst (List.map D.int cells)),Sl.fz (D.int cY),Sl.fz (D.lst (List.map dO top)),Sl.fz (D.lst (List.map dO bw)),Sl.fz (D.lst (List.map D.str left)),Sl.fz (D.lst (List.map D.str right)),Sl.ow (List.map i6 bH++[D.tup [D.int i,D.str w]]),Sl.fz (D.int i),Sl.fz (D.int one),Sl.fz (D.str w),Sl.fz (D.int m),Sl.fz (D.int M),Sl.fz (D.lst (here.map dO))]=[Sl.fz (D.lst [D.lst (List.map dO top),D.lst (List.map dO bw),D.lst (List.map D.str left),D.lst (List.map D.str right)]),Sl.fz (D.lst (List.map D.str ws)),Sl.fz (D.lst (List.map D.int cells)),Sl.fz (D.int cY),Sl.fz (D.lst (List.map dO top)),Sl.fz (D.lst (List.map dO bw)),Sl.fz (D.lst (List.map D.str left)),Sl.fz (D.lst (List.map D.str right)),Sl.ow (List.map i6 f9),a',b',c',d',e',f']/\gW top bw left right ws f9/\(∀p∈f9,p.1<((i+1:Nat):Int))/\f9.length<=i+1:=fun hp=>by
      refine⟨by omega,by simp;omega,bH++[((i:Int),w)],_,_,_,_,_,_,by rw[aE];rfl,fin hp,?_,by simp;omega⟩;intro p wu;rcases av.mp wu with h | h
      ·have:=lt p h;omega
      ·have:p=((i:Int),w):=by simpa using h
       subst this;show(i:Int)<_;omega
     by_cases ce:here=[]
     ·simp only[ce,List.map_nil,cW,lP,bh];split
      ·have:=put (.inl (sm ce));rw[ce] at this;exact this
      ·have:=skip (.fz (D.int i)) (.fz (D.int one)) (.fz (D.str w)) (.fz (D.int m)) (.fz (D.int M)) (.fz (D.lst [])) .non .non .non;exact this
     ·have e1:cW (D.lst (here.map dO)) (D.lst [])=false:=by
       simp only[cW,N9];cases here with
       | nil=>exact absurd rfl ce
       | cons=>rfl
      simp only[e1,ay,aX];refine⟨vL 8 here,?_⟩;rw[xm];simp only[decide_eq_true_eq];split
      ·rename_i wy;split
       ·exact put (.inr (kZ.mp wy))
       ·exact skip _ _ _ _ _ _ .non .non .non
      ·exact skip _ _ _ _ _ _ .non .non .non
    ·exact skip _ _ _ _ _ _ .non .non .non
   ·exact skip _ _ _ _ _ _ .non .non .non
 ·rintro ρ ⟨bH,a,b,c,d,e,f,rfl,bo,lt,ln⟩;walk_at "go";exact q bH bo
def lr(W:Nat)(keeps:List (Int×Int×Int)):Prop:=keeps.length<=6/\∀p∈keeps,0<=p.1/\p.1<=p.2.1/\p.2.1<W/\1<=p.2.2/\p.2.2<=3
def yh:eX:=fun ds Q=>∃(W:Nat) (cells:List Int) (cY:Int),ds=[.int W,dI cells,.int cY]/\1<=W/\W<=40/\∀keeps,lr W keeps->Q (.ow (keeps.map jj))
def Dr:TX:=(b8 (mH 3 (fX bQ))
 (b8 (j8 (xr (bF (jN (bz 1) kX (iT (dC (.int 6)))) bQ)) (mG 2 (fZ (dy 4) (fZ (dy 5) jZ))) (b8 (df 6 (fq 2 oY (bF (bE dA (bz 5) (bz 2)) (bF (bE dA (bz 4) (dC (.int 300))) bQ))))
 (b8 (df 7 (bE (oI (fun _ j=>0<j) fun i j=>.int (i%j)) (bz 6) (bz 0)))
 (eO (cL (bE oEq (bE (oI (fun _ j=>0<j) fun i j=>.int (i%j)) (bE (oI fc fun i j=>.int (i/j)) (bz 6) (dC (.int 64))) (dC (.int 4))) (dC (.int 0)))) (kG 3 (gq (bF (bz 7) (bF (bE dA (bz 7) (bE (oI (fun _ j=>0<j) fun i j=>.int (i%j)) (bE (oI fc fun i j=>.int (i/j)) (bz 6) (dC (.int 256))) (bE (gM fun i j=>.int (i-j)) (bz 0) (bz 7)))) (bF (bE dA (dC (.int 1)) (bE (oI (fun _ j=>0<j) fun i j=>.int (i%j)) (bE (oI fc fun i j=>.int (i/j)) (bz 6) (dC (.int 1024))) (dC (.int 3)))) bQ))))) fb))))
 (ue 3)))
theorem RS:jw 3 yh Dr ["_law_width","_law_cells","_law_seed","_law_keeps_here","_law_k","_law_cell","_law_one","_law_first"]:=by
 intro ds Qr hl h;obtain⟨W,cells,cY,rfl,hW,Fl,q⟩:=h;show Dr _ [.fz (.int W),.fz (dI cells),.fz (.int cY),.un,.un,.un,.un,.un];unfold Dr dI;have big:=ie;walk_at "px";refine⟨by omega,?_⟩;walk_at "go";refine Io (cells.take 6) D.int (fun Q' h=>?_) (fun i ρ=>∃(keeps:List (Int×Int×Int)) (a b c d:Sl),ρ=[.fz (.int W),.fz (D.lst (List.map D.int cells)),.fz (.int cY),.ow (keeps.map jj),a,b,c,d]/\keeps.length<=i/\∀p∈keeps,0<=p.1/\p.1<=p.2.1/\p.2.1<W/\1<=p.2.2/\p.2.2<=3) ⟨[],_,_,_,_,rfl,by simp,by simp⟩ ?_ ?_
 ·walk_at "px";rw[uo _ (by decide)];exact h
 ·rintro i x ρ hx ⟨keeps,a,b,c,d,rfl,kl,ko⟩;have hi:i<6:=by
   have:=(aS.mp hx).1;simp at this;omega
  walk_at "px";refine⟨x+cY,(i:Int)+300,rfl,by omega,by omega,?_⟩;have n0:=Na (x+cY) ((i:Int)+300);generalize ub _ _=one at n0 ⊢;walk_at "go";have f0:0<=one%(W:Int):=aH _ (by omega);have f1:one%(W:Int)<W:=aJ _ (by omega);refine⟨by omega,?_⟩;generalize one%(W:Int)=fst at f0 f1 ⊢;walk_at "go";have g0:0<=one/256%((W:Int)-fst):=aH _ (by omega);have g1:one/256%((W:Int)-fst)<(W:Int)-fst:=aJ _ (by omega);have k0:0<=one/1024%3:=aH _ (by omega);have k1:one/1024%3<3:=aJ _ (by omega);generalize one/256%((W:Int)-fst)=sp at g0 g1 ⊢;generalize one/1024%3=kk at k0 k1 ⊢;split
  ·refine⟨by omega,by omega,by simp;omega,keeps++[(fst,fst+sp,1+kk)],_,_,_,_,by rw[aE];rfl,by simp;omega,fun p hp=>?_⟩;rcases av.mp hp with h | h
   ·exact ko p h
   ·have:p=(fst,fst+sp,1+kk):=by simpa using h
    subst this;refine⟨f0,?_,?_,?_,?_⟩<;>dsimp only<;>omega
  ·exact⟨keeps,_,_,_,_,rfl,by omega,ko⟩
 ·rintro ρ ⟨keeps,a,b,c,d,rfl,kl,ko⟩;walk_at "go";refine q keeps ⟨?_,ko⟩;rw[aP] at kl;omega
def v7:eX:=fun ds Q=>∃(ws:List Str) (bits:Int),ds=[dS ws,.int bits]/\ws.length=8/\ws.Nodup/\∀l:List Str,l.length<=8->l.Nodup->(∀w∈l,w∈ws)->sortedS l=true->Q (.ow (l.map .str))
def Dw:TX:=(b8 (eO (cL (bE oEq (bE (oI (fun _ j=>0<j) fun i j=>.int (i%j)) (bE (oI fc fun i j=>.int (i/j)) (bz 1) (dC (.int 256))) (dC (.int 2))) (dC (.int 0)))) (ft (fX bQ)) fb)
 (ft (ek oV (bF (hJ (nu (bF (dC (.int 8)) bQ)) [none,some 0,some 1] (dy 0) (cL (bE oEq (bE (oI (fun _ j=>0<j) fun i j=>.int (i%j)) (bE (oI fc fun i j=>.int (i/j)) (bz 2) (bE cM (fX (bF (dC (.int 1)) (bF (dC (.int 2)) (bF (dC (.int 4)) (bF (dC (.int 8)) (bF (dC (.int 16)) (bF (dC (.int 32)) (bF (dC (.int 64)) (bF (dC (.int 128)) bQ))))))))) (bz 0))) (dC (.int 2))) (dC (.int 1)))) (bE cM (bz 1) (bz 0))) bQ))))
theorem NI(k:Nat)(h:k<8):fF ([1,2,4,8,16,32,64,128]:List Int) (k:Int)=some ((2:Int) ^ k):=by
 have:∀k:Fin 8,fF ([1,2,4,8,16,32,64,128]:List Int) (k.val:Int)=some ((2:Int) ^ k.val):=by decide +kernel
 exact this ⟨k,h⟩
theorem LP(k:Nat)(h:k<8):0<(2:Int) ^ k/\(2:Int) ^ k<1073741824:=by
 have:∀k:Fin 8,0<(2:Int) ^ k.val/\(2:Int) ^ k.val<1073741824:=by decide +kernel
 exact this ⟨k,h⟩
theorem QS{α:Type}(ws:List α)(d:α):(List.range ws.length).map (fun k=>ws.getD k d)=ws:=by
 apply List.ext_getElem
 ·simp
 ·intro i h1 h2;simp[h2]
theorem RC:jw 2 v7 Dw ["_law_words","_law_bits"]:=by
 intro ds Qr hl h;obtain⟨ws,bits,rfl,kO,nd,q⟩:=h;show Dw _ [.fz (dS ws),.fz (.int bits)];unfold Dw dS;have big:=ie;walk_at "px";split
 ·exact⟨by omega,q [] (by simp) (by simp) (by simp) rfl⟩
 ·walk_at "go";refine rK (List.range 8) (fun(i:Nat)=>.int (0+i)) (fun k=>.str (ws.getD k "")) (fun k=>decide (bits/2 ^ k%2=1)) (fun Q' h=>?_) (by simp;omega) (fun c hc K1 K0 k1 k0=>?_) ?_
  ·walk_at "px";exact h
  ·have Kl:c<8:=by simpa using hc
   rw[Int.zero_add];walk_at "px";refine⟨by omega,D.int (2 ^ c),?_,?_⟩
   ·have:=congrArg (Option.map D.int) (NI c Kl);rw[<-Cq] at this;exact this
   ·walk_at "px";refine⟨LP c Kl,?_⟩;by_cases hb:bits/2 ^ c%2=1
    ·simp only[hb,cW,beq_self_eq_true,bh];refine⟨ws[c],kJ (by omega),?_⟩;have:=k1 (by simpa using hb);rwa [show ws.getD c ""=ws[c] by simp[show c<ws.length by omega]] at this
    ·rw[if_neg hb];exact k0 (by simpa using hb)
  ·have e:∀L:List Nat,(L.map fun k=>D.str (ws.getD k ""))=(L.map fun k=>ws.getD k "").map D.str:=fun L=>by simp
   show oV [D.lst _] _;rw[e];have sub:List.Sublist (((List.range 8).filter fun k=>decide (bits/2 ^ k%2=1)).map fun k=>ws.getD k "") ws:=by
    have:=List.Sublist.map (fun k=>ws.getD k "") (List.filter_sublist (p:=fun k=>decide (bits/2 ^ k%2=1)) (l:=List.range 8));rwa [<-kO,QS,kO] at this
   generalize (((List.range 8).filter fun k=>decide (bits/2 ^ k%2=1)).map fun k=>ws.getD k "")=ss at sub ⊢;unfold oV;simp only[AH];have hle:=sub.length_le;refine⟨by omega,fun jr hp hs=>q jr (by rw[hp.length_eq];omega) (hp.nodup_iff.mpr (sub.nodup nd)) (fun w hw=>sub.subset (hp.subset hw)) hs⟩
end Wc
namespace Wc
open PySem L2 PyProof.Rows
noncomputable def kd(bZ:List Str):Option Str->Option Str
 | none=>none
 | some w=>if w∈bZ then none else some w
theorem KW(x:Option Str)(l:List Str):inD (dO x) (l.map .str)=(match x with | none=>false | some w=>decide (w∈l)):=by
 cases x with
 | none=>
  unfold inD;rw[List.any_map];induction l with
  | nil=>rfl
  | cons a r ih=>rw[List.any_cons,ih];simp[dO,cW]
 | some w=>exact sP w l
theorem Jv(bZ:List Str)(w:Str)(l:List (Option Str)):(l.map (kd bZ)).count (some w)=if w∈bZ then 0 else l.count (some w):=by
 induction l with
 | nil=>simp
 | cons a r ih=>
  rw[au,List.count_cons,ih,List.count_cons];cases a with
  | none=>simp[kd]
  | some v=>
   unfold kd;by_cases h:v∈bZ
   ·by_cases hw:w∈bZ
    ·simp[h,hw]
    ·have:v≠w:=fun z=>hw (z▸h)
     simp[h,hw,this]
   ·by_cases hw:w∈bZ
    ·have:v≠w:=fun z=>h (z▸hw)
     simp[h,hw,this]
    ·simp[h,hw]
theorem Je(bZ:List Str)(w:Str)(l:List Str):(l.filter fun x=>decide (x∉bZ)).count w=if w∈bZ then 0 else l.count w:=by
 by_cases hw:w∈bZ
 ·rw[if_pos hw,aZ];intro h;rw[bf] at h;simpa[hw] using h.2
 ·rw[if_neg hw,List.count_filter];simpa using hw
theorem Jq{ws bZ:List Str}{l:List (Option Str)}(h:gf ws l):gf ws (l.map (kd bZ)):=fun w hw=>by
 rw[aN] at hw;obtain⟨x,hx,e⟩:=hw;cases x with
 | none=>cases e
 | some v=>
  by_cases hv:v∈bZ
  ·simp[kd,hv] at e
  ·simp[kd,hv] at e;subst e;exact h _ hx
theorem NH{ws:List Str}{top bw:List (Option Str)}{left right:List Str}(pt:gf ws top)(pb:gf ws bw)(lf:∀w∈left,w∈ws)(rt:∀w∈right,w∈ws){w:Str}(h:w∉ws):fS top bw left right w=0:=by
 unfold fS;rw[aZ.mpr fun z=>h (pt w z),aZ.mpr fun z=>h (pb w z),aZ.mpr fun z=>h (lf w z),aZ.mpr fun z=>h (rt w z)]
theorem Qg{ws:List Str}{top bw:List (Option Str)}{left right:List Str}(pt:gf ws top)(pb:gf ws bw)(lf:∀w∈left,w∈ws)(rt:∀w∈right,w∈ws)(bZ:List Str)(hl:bZ=ws.filter fun w=>decide (fS top bw left right w=1))(w:Str) :
  fS (top.map (kd bZ)) (bw.map (kd bZ)) (left.filter fun x=>decide (x∉bZ)) (right.filter fun x=>decide (x∉bZ)) w≠1:=by
 have e:fS (top.map (kd bZ)) (bw.map (kd bZ)) (left.filter fun x=>decide (x∉bZ)) (right.filter fun x=>decide (x∉bZ)) w=if w∈bZ then 0 else fS top bw left right w:=by
  unfold fS;rw[Jv,Jv,Je,Je];split<;>simp
 rw[e];by_cases h:w∈bZ
 ·rw[if_pos h];decide
 ·rw[if_neg h];by_cases kO:w∈ws
  ·intro z;apply h;rw[hl,bf];exact⟨kO,by simpa using z⟩
  ·rw[NH pt pb lf rt kO];decide
structure gj (ws:List Str) (most:Nat) (c:bN):Prop where
 w1:1<=c.top.length
 w2:c.top.length<=most
 bl:c.bw.length=c.top.length
 pt:gf ws c.top
 pb:gf ws c.bw
 ll:c.left.length<=8
 lw:∀w∈c.left,w∈ws
 lo:c.left.Pairwise hU
 rl:c.right.length<=8
 rw_:∀w∈c.right,w∈ws
 ro:c.right.Pairwise hU
 cnt:∀w,fS c.top c.bw c.left c.right w≠1
 wl:c.wide.length<=8
 wo:(c.wide.map (·.1)).Pairwise hU
 ww:∀p∈c.wide,p.1∈ws/\(p.2=2\/p.2=3)/\1<fS c.top c.bw c.left c.right p.1
 be:gW c.top c.bw c.left c.right ws c.bH
 ke:lr c.top.length c.keeps
def yd:eX:=fun ds Q=>∃(ns:List Int) (most:Nat),ds=[dI ns,.int most]/\ns.length<=1000/\1<=most/\most<=40/\∀c,gj (mP (qN ns)) most c->Q (.ow c.parts)
theorem Hg(bZ:List Str)(l:List (Option Str))(j k:Nat)(ρ:Ev)(Q:R->Prop)(hl:l.length<=100)(hj:gt ρ j=.fz (.lst (l.map dO)))(hk:gt ρ k=.fz (.lst (bZ.map .str)))(hq:Q (.ow ((l.map (kd bZ)).map dO))) :
  hJ (iS (bz j)) [none,some k] (dy 0) lF (zE (cL (bE (jv false) (bz 0) (bz 1))) (dC D.non) (bz 0)) ρ Q:=by
 have big:=ie;refine qH l dO (fun x=>dO (kd bZ x)) (fun Q' h=>?_) (by omega) (fun x hx K1 k=>?_) ?_
 ·simp only[iS,bz,hj];exact h
 ·simp only[fY,au,List.map_nil,oO,hk];walk_at "px";have h2:dg 8 (dO x)/\(∀e∈bZ.map D.str,dg 8 e):=⟨by rw[rA];trivial,qG 8 bZ⟩
  have h3:if inD (dO x) (bZ.map D.str)=true then K1 D.non else K1 (dO x):=by
   rw[KW];cases x with
   | none=>simpa[kd] using k
   | some v=>
    by_cases hv:v∈bZ
    ·simpa[kd,hv,dO] using k
    ·simpa[kd,hv,dO] using k
  cases x with
  | none=>exact⟨h2.1,h2.2,h3⟩
  | some v=>exact⟨h2.1,h2.2,h3⟩
 ·rw[br] at hq;exact hq
theorem HG(bZ l:List Str)(j k:Nat)(ρ:Ev)(Q:R->Prop)(hl:l.length<=100)(hj:gt ρ j=.fz (.lst (l.map .str)))(hk:gt ρ k=.fz (.lst (bZ.map .str)))(hq:Q (.ow ((l.filter fun x=>decide (x∉bZ)).map D.str))) :
  hJ (iS (bz j)) [none,some k] (dy 0) (cL (bE (jv true) (bz 0) (bz 1))) (bz 0) ρ Q:=by
 have big:=ie;refine rK l D.str D.str (fun x=>decide (x∉bZ)) (fun Q' h=>?_) (by omega) (fun x hx K1 K0 k1 k0=>?_) hq
 ·simp only[iS,bz,hj];exact h
 ·simp only[fY,au,List.map_nil,oO,hk];walk_at "px";refine⟨qG 8 bZ,?_⟩;rw[sP];by_cases hv:x∈bZ
  ·simpa[hv] using k0 (by simpa using hv)
  ·simpa[hv] using k1 (by simpa using hv)
def DJ:TX:=(b8 (df 2 (bE (oI (fun _ j=>0<j) fun i j=>.int (i%j)) (bE (oI iK fun i j=>.int (i*j)) (bE (oI (fun _ j=>0<j) fun i j=>.int (i%j)) (ek qY (bF (jN (bz 0) kX (iT (dC (.int 1)))) bQ)) (bE (oI qw fun i j=>.int (i ^ j.toNat)) (dC (.int 10)) (dC (.int 30)))) (dC (.int 40014))) (dC (.int 2147483563))))
 (b8 (df 3 (fq 1 vX (bF (ek qY (bF (jN (bz 0) kX (iT (dC (.int 1)))) bQ)) bQ)))
 (b8 (df 4 (bE dA (dC (.int 1)) (bE (oI (fun _ j=>0<j) fun i j=>.int (i%j)) (bz 2) (bz 1))))
 (b8 (df 5 (jN (bz 0) (iT (dC (.int 1))) kX))
 (b8 (rg (fq 4 ym (bF (bz 3) (bF (bz 5) (bF (bz 2) (bF (bz 4) bQ))))) (mG 2 (fZ (dy 6) (fZ (dy 7) jZ))))
 (b8 (df 8 (fq 2 oY (bF (ek qY (bF (jN (bz 0) (iT (dC (.int 1))) (iT (dC (.int 2)))) bQ)) (bF (bE dA (dC (.int 400)) (bE (oI (fun _ j=>0<j) fun i j=>.int (i%j)) (bz 2) (dC (.int 7)))) bQ))))
 (b8 (df 9 (fq 2 v7 (bF (bz 3) (bF (bz 8) bQ))))
 (b8 (df 10 (fq 2 v7 (bF (bz 3) (bF (bE (oI fc fun i j=>.int (i/j)) (bz 8) (dC (.int 512))) bQ))))
 (b8 (df 11 (hJ (iS (bz 3)) [none,some 6,some 7,some 9,some 10] (dy 0) (cL (bE oEq (fq 5 v8 (bF (bz 1) (bF (bz 2) (bF (bz 3) (bF (bz 4) (bF (bz 0) bQ)))))) (dC (.int 1)))) (bz 0)))
 (b8 (df 6 (hJ (iS (bz 6)) [none,some 11] (dy 0) lF (zE (cL (bE (jv false) (bz 0) (bz 1))) (dC .non) (bz 0))))
 (b8 (df 7 (hJ (iS (bz 7)) [none,some 11] (dy 0) lF (zE (cL (bE (jv false) (bz 0) (bz 1))) (dC .non) (bz 0))))
 (b8 (df 9 (hJ (iS (bz 9)) [none,some 11] (dy 0) (cL (bE (jv true) (bz 0) (bz 1))) (bz 0)))
 (b8 (df 10 (hJ (iS (bz 10)) [none,some 11] (dy 0) (cL (bE (jv true) (bz 0) (bz 1))) (bz 0)))
 (b8 (mH 12 (fX bQ))
 (b8 (j8 (xr (bF (ek oV (bF (bz 3) bQ)) bQ)) (mG 2 (fZ (dy 13) (fZ (dy 14) jZ))) (b8 (df 15 (fq 2 oY (bF (bE dA (bz 2) (bz 13)) (bF (dC (.int 500)) bQ))))
 (eO (qt (cL (bE oEq (bE (oI (fun _ j=>0<j) fun i j=>.int (i%j)) (bz 15) (dC (.int 4))) (dC (.int 0)))) (cL (bE (gM fun i j=>.bl (decide (j<i))) (fq 5 v8 (bF (bz 6) (bF (bz 7) (bF (bz 9) (bF (bz 10) (bF (bz 14) bQ)))))) (dC (.int 1))))) (kG 12 (gq (bF (bz 14) (bF (bE dA (dC (.int 2)) (bE (oI (fun _ j=>0<j) fun i j=>.int (i%j)) (bE (oI fc fun i j=>.int (i/j)) (bz 15) (dC (.int 4))) (dC (.int 2)))) bQ)))) fb)))
 (b8 (df 16 (fq 4 yi (bF (fX (bF (bz 6) (bF (bz 7) (bF (bz 9) (bF (bz 10) bQ))))) (bF (bz 3) (bF (bz 5) (bF (bz 2) bQ))))))
 (b8 (df 17 (fX bQ))
 (b8 (eO (cL (bE oEq (bE (oI (fun _ j=>0<j) fun i j=>.int (i%j)) (bE (oI fc fun i j=>.int (i/j)) (bz 2) (dC (.int 97))) (dC (.int 3))) (dC (.int 0)))) (df 17 (fq 3 yh (bF (bz 4) (bF (bz 5) (bF (bz 2) bQ))))) fb)
 (qZ 12 (ft (fX (bF (bz 6) (bF (bz 7) (bF (bz 9) (bF (bz 10) (bF (bz 12) (bF (bz 16) (bF (bz 17) bQ))))))))))))))))))))))))))))
theorem Ss:jw 2 yd DJ ["_law_script","_law_most","_law_seed","_law_words","_law_width","_law_cells","_law_top","_law_bottom","_law_bits","_law_left","_law_right","_law_lone","_law_wide","_law_k","_law_word","_law_one","_law_bends_here","_law_keeps_here"]:=by
 intro ds Qr hl h;obtain⟨ns,most,rfl,hn,hm,jJ,q⟩:=h;show DJ _ [.fz (dI ns),.fz (.int most),.un,.un,.un,.un,.un,.un,.un,.un,.un,.un,.un,.un,.un,.un,.un,.un];unfold DJ dI;have big:=ie;walk_at "px";generalize tM:((iR ns none (some 1)).sum%1000000000000000000000000000000*40014)%2147483563=cY;have s0:0<=cY:=by rw[<-tM];exact aH _ (by decide)
 clear tM;walk_at "go";refine⟨_,rfl,?_⟩;rw[uo _ (by decide)];have hw:=PJ (qN ns);change mM _ _ [_,_,_,.fz (.lst ((mP (qN ns)).map .str)),_,_,_,_,_,_,_,_,_,_,_,_,_,_];generalize mP (qN ns)=ws at hw q ⊢;walk_at "go";refine⟨by omega,?_⟩;have m0:0<=cY%(most:Int):=aH _ (by omega);have m1:cY%(most:Int)<most:=aJ _ (by omega);obtain⟨W,hW⟩:∃W:Nat,1+cY%(most:Int)=W:=⟨(1+cY%(most:Int)).toNat,by omega⟩
 rw[hW];walk_at "go";rw[Df _ (by decide)];walk_at "go";refine⟨ws,ns.drop 1,cY,W,rfl,hw.1,by omega,fun top bw ht hb pt pb=>?_⟩;walk_at "px";walk_at "go";refine⟨_,_,rfl,by have:=aH cY (show(7:Int)≠0 by decide);omega,by have:=aJ cY (show(0:Int)<7 by decide);omega,?_⟩;generalize ub _ _=bits;walk_at "go";refine⟨ws,bits,rfl,hw.1,hw.2,fun left Ua T9 JP T8=>?_⟩;walk_at "go";refine⟨ws,_,rfl,hw.1,hw.2,fun right TF TC JG TB=>?_⟩;walk_at "go";refine rK ws D.str D.str (fun w=>decide (fS top bw left right w=1)) (fun Q' h=>?_) (by have:=hw.1;omega) (fun w _ K1 K0 k1 k0=>?_) ?_
 ·walk_at "px";exact h
 ·walk_at "px";refine⟨top,bw,left,right,w,rfl,by omega,?_⟩;walk_at "px";by_cases hc:fS top bw left right w=1
  ·rw[if_pos (by omega)];exact k1 (by simpa using hc)
  ·rw[if_neg (by omega)];exact k0 (by simpa using hc)
 generalize tQ:ws.filter (fun w=>decide (fS top bw left right w=1))=bZ;have FE:=Qg pt pb JP JG bZ tQ.symm;have VU:bZ.length<=8:=by rw[<-tQ];have:=List.length_filter_le (fun w=>decide (fS top bw left right w=1)) ws;have:=hw.1;omega
 walk_at "go";refine Hg bZ top 6 11 _ _ (by omega) rfl rfl ?_;walk_at "go";refine Hg bZ bw 7 11 _ _ (by omega) rfl rfl ?_;walk_at "go";refine HG bZ left 9 11 _ _ (by omega) rfl rfl ?_;walk_at "go";refine HG bZ right 10 11 _ _ (by omega) rfl rfl ?_;have JI:gf ws (top.map (kd bZ)):=Jq pt;have we:gf ws (bw.map (kd bZ)):=Jq pb;have eh:(top.map (kd bZ)).length=W:=by simpa using ht
 have Fi:(bw.map (kd bZ)).length=W:=by simpa using hb
 have T6:(left.filter fun x=>decide (x∉bZ)).Pairwise hU:=(AE T8 T9).sublist List.filter_sublist;have TK:(right.filter fun x=>decide (x∉bZ)).Pairwise hU:=(AE TB TC).sublist List.filter_sublist;have T5:∀w∈(left.filter fun x=>decide (x∉bZ)),w∈ws:=fun w h=>JP w (bf.mp h).1
 have rO:∀w∈(right.filter fun x=>decide (x∉bZ)),w∈ws:=fun w h=>JG w (bf.mp h).1
 have T7:(left.filter fun x=>decide (x∉bZ)).length<=8:=aT (List.length_filter_le _ _) Ua;have TL:(right.filter fun x=>decide (x∉bZ)).length<=8:=aT (List.length_filter_le _ _) TF;generalize top.map (kd bZ)=kj at *;generalize bw.map (kd bZ)=eE at *;generalize (left.filter fun x=>decide (x∉bZ))=g9 at *;generalize (right.filter fun x=>decide (x∉bZ))=right' at *;walk_at "go";refine⟨by omega,?_⟩;walk_at "go";refine HJ (fun ds=>∃ss:List Str,ss.Perm ws/\sortedS ss=true/\ds=oQ (ss.map .str)) (fun Q' h=>?_) ?_
 ·walk_at "px";simp only[oV,AH];refine⟨by have:=hw.1;omega,fun ss hp hs=>?_⟩;walk_at "px";exact h _ ⟨ss,hp,hs,rfl⟩
 rintro _ ⟨ss,hp,hs,rfl⟩;have VN:ss.length=8:=by rw[hp.length_eq];exact hw.1
 have Tw:ss.Pairwise hU:=AE hs (hp.nodup_iff.mpr hw.2);refine QT ss D.str (fun i ρ=>∃(wide:List (Str×Int)) (a b c:Sl),ρ=[.fz (D.lst (List.map D.int ns)),.fz (D.int most),.fz (D.int cY),.fz (D.lst (List.map D.str ws)),.fz (D.int W),.fz (D.lst (List.map D.int (List.drop 1 ns))),.fz (D.lst (kj.map dO)),.fz (D.lst (eE.map dO)),.fz (D.int bits),.fz (D.lst (g9.map D.str)),.fz (D.lst (right'.map D.str)),.fz (D.lst (bZ.map D.str)),.ow (wide.map lL),a,b,c,.un,.un]/\List.Sublist (wide.map (·.1)) (ss.take i)/\(∀p∈wide,(p.2=2\/p.2=3)/\1<fS kj eE g9 right' p.1)) ⟨[],_,_,_,rfl,by simp,by simp⟩ ?_ ?_
 ·rintro i x ρ hx ⟨wide,a,b,c,rfl,sub,wo⟩;have hi:i<8:=by have:=(aS.mp hx).1;omega
  have tk:ss.take (i+1)=ss.take i++[x]:=by rw[List.take_add_one,hx];rfl
  have uO:wide.length<=8:=by have:=sub.length_le;simp at this;omega
  walk_at "px";refine⟨_,_,rfl,by omega,by omega,?_⟩;generalize ub _ _=one;walk_at "go";have skip:∃(pI:List (Str×Int)) (a' b' c':Sl),[Sl.fz (D.lst (List.map D.int ns)),.fz (D.int most),.fz (D.int cY),.fz (D.lst (List.map D.str ws)),.fz (D.int W),.fz (D.lst (List.map D.int (List.drop 1 ns))),.fz (D.lst (kj.map dO)),.fz (D.lst (eE.map dO)),.fz (D.int bits),.fz (D.lst (g9.map D.str)),.fz (D.lst (right'.map D.str)),.fz (D.lst (bZ.map D.str)),.ow (wide.map lL),.fz (D.int i),.fz (D.str x),.fz (D.int one),.un,.un]=[Sl.fz (D.lst (List.map D.int ns)),.fz (D.int most),.fz (D.int cY),.fz (D.lst (List.map D.str ws)),.fz (D.int W),.fz (D.lst (List.map D.int (List.drop 1 ns))),.fz (D.lst (kj.map dO)),.fz (D.lst (eE.map dO)),.fz (D.int bits),.fz (D.lst (g9.map D.str)),.fz (D.lst (right'.map D.str)),.fz (D.lst (bZ.map D.str)),.ow (pI.map lL),a',b',c',.un,.un]/\List.Sublist (pI.map (·.1)) (ss.take (i+1))/\(∀p∈pI,(p.2=2\/p.2=3)/\1<fS kj eE g9 right' p.1):=
   ⟨wide,_,_,_,rfl,by rw[tk];exact sub.trans (List.sublist_append_left _ _),wo⟩
  split
  ·refine⟨kj,eE,g9,right',x,rfl,by omega,?_⟩;walk_at "px";split
   ·rename_i hc;have e2:one/4%2=0\/one/4%2=1:=by omega
    refine⟨by omega,by simp;omega,wide++[(x,2+one/4%2)],_,_,_,by rw[aE];rfl,?_,fun p hp=>?_⟩
    ·rw[tk,aE];exact sub.append (List.Sublist.refl _)
    ·rcases av.mp hp with h | h
     ·exact wo p h
     ·have:p=(x,2+one/4%2):=by simpa using h
      subst this;exact⟨by dsimp only;omega,by dsimp only;omega⟩
   ·exact skip
  ·exact skip
 rintro ρ ⟨wide,a,b,c,rfl,sub,wo⟩;rw[List.take_length] at sub;have uO:wide.length<=8:=by have:=sub.length_le;simp at this;omega
 have Td:(wide.map (·.1)).Pairwise hU:=Tw.sublist sub;have ww:∀p∈wide,p.1∈ws/\(p.2=2\/p.2=3)/\1<fS kj eE g9 right' p.1:=fun p h=>⟨hp.subset (sub.subset (aI h)),wo p h⟩
 walk_at "go";refine⟨by omega,kj,eE,g9,right',ws,ns.drop 1,cY,rfl,by omega,by omega,by omega,by omega,hw.1,JI,by simp;omega,fun bH bo=>?_⟩;walk_at "go";refine⟨by omega,?_⟩;have fin:∀keeps,lr W keeps->Qr (R.ow [dP kj,dP eE,dS g9,dS right',dW wide,dB bH,dK keeps]):=fun keeps ko=>q ⟨kj,eE,g9,right',wide,bH,keeps⟩ ⟨by dsimp only;omega,by dsimp only;omega,by dsimp only;omega,JI,we,T7,T5,T6,TL,rO,TK,FE,uO,Td,ww,bo,by dsimp only;rw[eh];exact ko⟩
 walk_at "go";split
 ·refine⟨W,ns.drop 1,cY,rfl,by omega,by omega,fun keeps ko=>?_⟩;walk_at "go";exact⟨by omega,fin keeps ko⟩
 ·walk_at "go";exact⟨by omega,fin [] ⟨by simp,by simp⟩⟩
end Wc
namespace Wc
open PySem L2 PyProof.Rows
def xW:eX:=fun ds Q=>∃a b c d e f g:List D,ds=[.lst a,.lst b,.lst c,.lst d,.lst e,.lst f,.lst g]/\Q (.fz (.obj "Channel" [("top",.lst a),("bottom",.lst b),("left",.lst c),("right",.lst d),("wide",.lst e),("bends",.lst f),("keeps",.lst g)]))
def AD:vc:=(qX "top" (ek zev (bF (bz 1) bQ)) (qX "bottom" (ek zev (bF (bz 2) bQ)) (qX "left" (ek zev (bF (bz 3) bQ)) (qX "right" (ek zev (bF (bz 4) bQ)) (qX "wide" (ek zev (bF (bz 5) bQ)) (qX "bends" (ek zev (bF (bz 6) bQ)) (qX "keeps" (ek zev (bF (bz 7) bQ)) BK)))))))
theorem Q5(ds:List D)(Qr:R->Prop)(NA:List (Str×D)->Prop)(na:∀fs:List (Str×D),fs.map (·.1)=(["top","bottom","left","right","wide","bends","keeps"]:List Str)->NA fs)(h:xW ds Qr) :
  AD (sW ["self","top","bottom","left","right","wide","bends","keeps"] ds) [] fun fs=>NA fs/\Qr (.fz (.obj "Channel" fs)):=by
 obtain⟨a,b,c,d,e,f,g,rfl,q⟩:=h;show AD [.un,.fz (.lst a),.fz (.lst b),.fz (.lst c),.fz (.lst d),.fz (.lst e),.fz (.lst f),.fz (.lst g)] [] _;unfold AD;simp only[qX,BK,ek,bF,bQ,bz,gt,zev,ug,GY];exact⟨by decide,show 1<1000 by decide,show 2<1000 by decide,show 3<1000 by decide,show 4<1000 by decide,show 5<1000 by decide,show 6<1000 by decide,na _ rfl,q⟩
end Wc
namespace Wc
open PySem L2 PyProof.Rows
def uw:eX:=fun ds Q=>∃c:bN,ds=[.lst c.parts]/\Q (.fz c.obj)
def Dv:TX:=(b8 (df 1 (hJ (iS (bz 0)) [none] (dy 0) lF (ek zev (bF (bz 0) bQ))))
 (ft (fq 7 xW (bF (bE cM (bz 1) (dC (.int 0))) (bF (bE cM (bz 1) (dC (.int 1))) (bF (bE cM (bz 1) (dC (.int 2))) (bF (bE cM (bz 1) (dC (.int 3))) (bF (bE cM (bz 1) (dC (.int 4))) (bF (bE cM (bz 1) (dC (.int 5))) (bF (bE cM (bz 1) (dC (.int 6))) bQ))))))))))
theorem RB:jw 1 uw Dv ["_law_lists","_law_copies"]:=by
 intro ds Qr hl h;obtain⟨c,rfl,q⟩:=h;show Dv _ [.fz (.lst c.parts),.un];unfold Dv;walk_at "px";refine qH c.parts id id (fun Q' h=>?_) (by rw[ie];show 7<=16777216;decide) (fun d hd K1 k=>?_) ?_
 ·walk_at "px";rw[List.map_id] at h;exact h
 ·walk_at "px";simp only[bN.parts,ah,aK,or_false] at hd;rcases hd with rfl | rfl | rfl | rfl | rfl | rfl | rfl<;>exact k
 ·rw[List.map_id];walk_at "go";unfold bN.parts;exact⟨_,rfl,_,rfl,_,rfl,_,rfl,_,rfl,_,rfl,_,rfl,_,_,_,_,_,_,_,rfl,q⟩
def vZ:eX:=fun ds Q=>∃c:bN,ds=[c.obj,.lst c.parts]/\Q (.fz (.bl true))
def Du:TX:=(b8 (df 2 (fX (bF (ib "top" (bz 0)) (bF (ib "bottom" (bz 0)) (bF (ib "left" (bz 0)) (bF (ib "right" (bz 0)) (bF (ib "wide" (bz 0)) (bF (ib "bends" (bz 0)) (bF (ib "keeps" (bz 0)) bQ)))))))))
 (ft (bE oEq (bz 2) (bz 1))))
theorem RA:jw 2 vZ Du ["_law_channel_here","_law_lists","_law_told"]:=by
 intro ds Qr hl h;obtain⟨c,rfl,q⟩:=h;show Du _ [.fz c.obj,.fz (.lst c.parts),.un];unfold Du;unfold bN.obj;walk_at "px";refine⟨_,rfl,_,rfl,_,rfl,_,rfl,_,rfl,_,rfl,_,rfl,by rw[ie];decide,?_⟩;walk_at "go";have ok:=PM c;refine⟨ok.mono (by decide),ok.mono (by decide),?_⟩;show Qr (.fz (.bl (cW (.lst c.parts) (.lst c.parts))));rw[xK 3 _ ok];exact q
end Wc
namespace Wc
open PySem L2 PyProof.Rows
end Wc
open PySem L2 PyProof.Rows Wc
local macro_rules | `(tactic| walk_at "px")=>`(tactic| (repeat(first | walk_at "b" | simp only[tj,AF,vA,rA,sP,xm])))
namespace Wc
open PySem L2 PyProof.Rows
inductive En where
 | lf | tp (n:Nat) | bt (n:Nat) | rt
noncomputable def dE:En->D
 | .lf=>.tup [.str "left"]
 | .tp n=>.tup [.str "top",.int n]
 | .bt n=>.tup [.str "bottom",.int n]
 | .rt=>.tup [.str "right"]
noncomputable def ny(c:bN)(w:Str)(n:Nat):List En:=(if c.top[n]?=some (some w) then [.tp n] else [])++(if c.bw[n]?=some (some w) then [.bt n] else [])
noncomputable def mO(c:bN)(w:Str):List En:=(if w∈c.left then [.lf] else [])++(List.range c.top.length).flatMap (ny c w)++(if w∈c.right then [.rt] else [])
theorem Qf(c:bN)(w:Str)(n:Nat):(ny c w n).length<=2:=by unfold ny;split<;>split<;>simp
theorem CI(c:bN)(w:Str)(i:Nat):((List.range i).flatMap (ny c w)).length<=2*i:=by
 induction i with
 | zero=>simp
 | succ i ih=>
  rw[List.range_succ,List.flatMap_append,aj];have:=Qf c w i;simp only[List.flatMap_cons,List.flatMap_nil,aM];omega
structure l9 (c:bN):Prop where
 w:c.top.length<=40
 b:c.bw.length=c.top.length
 l:c.left.length<=100
 r:c.right.length<=100
def vS:eX:=fun ds Q=>∃(c:bN) (w:Str),ds=[c.obj,.str w]/\l9 c/\Q (.ow ((mO c w).map dE))
def Dd:TX:=(b8 (mH 2 (fX bQ))
 (b8 (eO (cL (bE (jv false) (bz 1) (ib "left" (bz 0)))) (kG 2 (gq (bF (dC (.str "left")) bQ))) fb)
 (b8 (j8 (nu (bF (ek jY (bF (ib "top" (bz 0)) bQ)) bQ)) (dy 3) (b8 (eO (cL (bE oEq (bE cM (ib "top" (bz 0)) (bz 3)) (bz 1))) (kG 2 (gq (bF (dC (.str "top")) (bF (bz 3) bQ)))) fb)
 (eO (cL (bE oEq (bE cM (ib "bottom" (bz 0)) (bz 3)) (bz 1))) (kG 2 (gq (bF (dC (.str "bottom")) (bF (bz 3) bQ)))) fb)))
 (b8 (eO (cL (bE (jv false) (bz 1) (ib "right" (bz 0)))) (kG 2 (gq (bF (dC (.str "right")) bQ))) fb)
 (ue 2)))))
theorem Q4:jw 2 vS Dd ["channel","name","ends","column"]:=by
 intro ds Qr hl h;obtain⟨c,w,rfl,sh,q⟩:=h;show Dd _ [.fz c.obj,.fz (.str w),.un,.un];unfold Dd;have big:=ie;unfold bN.obj;walk_at "px";refine⟨by omega,?_⟩;walk_at "go";refine⟨_,rfl,?_⟩;unfold dS;walk_at "px";refine⟨qG 8 _,?_⟩;have obj:D.obj (Str.ofString "Channel") [(Str.ofString "top",dP c.top),(Str.ofString "bottom",dP c.bw),(Str.ofString "left",D.lst (c.left.map D.str)),(Str.ofString "right",D.lst (c.right.map D.str)),(Str.ofString "wide",dW c.wide),(Str.ofString "bends",dB c.bH),(Str.ofString "keeps",dK c.keeps)]=c.obj:=rfl;rw[obj];have rest:∀k:Sl,mM (b8 (j8 (nu (bF (ek jY (bF (ib "top" (bz 0)) bQ)) bQ)) (dy 3) (b8 (eO (cL (bE oEq (bE cM (ib "top" (bz 0)) (bz 3)) (bz 1))) (kG 2 (gq (bF (dC (.str "top")) (bF (bz 3) bQ)))) fb)
 (eO (cL (bE oEq (bE cM (ib "bottom" (bz 0)) (bz 3)) (bz 1))) (kG 2 (gq (bF (dC (.str "bottom")) (bF (bz 3) bQ)))) fb)))
 (b8 (eO (cL (bE (jv false) (bz 1) (ib "right" (bz 0)))) (kG 2 (gq (bF (dC (.str "right")) bQ))) fb)
 (ue 2))) { nx:=fun x=>Qr (R.fz D.non),rt:=Qr } [.fz c.obj,.fz (.str w),.ow ((if w∈c.left then [En.lf] else []).map dE),k]:=by
  intro k;walk_at "go";refine ux c.top.length (fun Q' h=>?_) (fun i ρ=>∃k:Sl,ρ=[.fz c.obj,.fz (.str w),.ow (((if w∈c.left then [En.lf] else [])++(List.range i).flatMap (ny c w)).map dE),k]) ⟨k,by simp⟩ ?_ ?_
  ·unfold bN.obj;walk_at "px";refine⟨_,rfl,?_⟩;unfold dP;walk_at "px";rw[ae];have:=sh.w;exact⟨by omega,by omega,by simpa using h⟩
  ·rintro i ρ hi ⟨k,rfl⟩;have hle:=CI c w i;have hw:=sh.w;have EW:∀(b:Prop) [Decidable b],(if b then [En.lf] else []).length<=1:=fun b _=>by split<;>simp
   have pW:=EW (w∈c.left);rw[List.range_succ,List.flatMap_append,<-List.append_assoc];generalize jt:(if w∈c.left then [En.lf] else [])++(List.range i).flatMap (ny c w)=acc;have Ko:acc.length<=1000:=by rw[<-jt,aj];omega
   simp only[List.flatMap_cons,List.flatMap_nil,aM];have zh:i<c.bw.length:=by rw[sh.b];exact hi
   unfold bN.obj;walk_at "px";refine⟨_,rfl,?_⟩;unfold dP;walk_at "px";refine⟨_,kJ hi,?_⟩;unfold ny;rw[ao hi,ao zh];simp only[Option.some.injEq];split
   focus refine⟨by omega,by simp;omega,?_⟩
   all_goals
    walk_at "go";refine⟨_,rfl,?_⟩;walk_at "px";refine⟨_,kJ zh,?_⟩;split
   ·exact⟨by omega,by simp;omega,_,by simp[dE];rfl⟩
   ·exact⟨_,by simp[dE];rfl⟩
   ·exact⟨by omega,by simp;omega,_,by simp[dE];rfl⟩
   ·exact⟨_,by simp;rfl⟩
  ·rintro ρ ⟨k,rfl⟩;have hle:=CI c w c.top.length;have hw:=sh.w;have EW:∀(b:Prop) [Decidable b],(if b then [En.lf] else []).length<=1:=fun b _=>by split<;>simp
   have pW:=EW (w∈c.left);unfold mO at q;generalize jt:(if w∈c.left then [En.lf] else [])++(List.range c.top.length).flatMap (ny c w)=acc at q ⊢;have Ko:acc.length<=1000:=by rw[<-jt,aj];omega
   unfold bN.obj;walk_at "go";refine⟨_,rfl,?_⟩;unfold dS;walk_at "px";refine⟨qG 8 _,?_⟩;by_cases hr:w∈c.right
   ·rw[if_pos hr];rw[if_pos hr,aE] at q;refine⟨by omega,by simp;omega,?_⟩;walk_at "go";exact q
   ·rw[if_neg hr];rw[if_neg hr,aM] at q;walk_at "go";exact q
 by_cases hc:w∈c.left
 ·rw[if_pos hc];refine⟨by omega,by omega,?_⟩;have:=rest .un;rw[if_pos hc] at this;exact this
 ·rw[if_neg hc];have:=rest .un;rw[if_neg hc] at this;exact this
end Wc
namespace Wc
open PySem L2 PyProof.Rows
noncomputable def oN(c:bN):En->Int
 | .lf=>-1
 | .tp n=>n
 | .bt n=>n
 | .rt=>c.top.length
def yk:eX:=fun ds Q=>∃(c:bN) (e:En),ds=[c.obj,dE e]/\Q (.fz (.int (oN c e)))
def Dt:TX:=(b8 (eO (cL (bE oEq (bE cM (bz 1) (dC (.int 0))) (dC (.str "left")))) (ft (xh (dC (.int 1)))) fb)
 (b8 (eO (cL (bE oEq (bE cM (bz 1) (dC (.int 0))) (dC (.str "right")))) (ft (ek jY (bF (ib "top" (bz 0)) bQ))) fb)
 (ft (bE cM (bz 1) (dC (.int 1))))))
theorem Rz:jw 2 yk Dt ["channel","end"]:=by
 intro ds Qr hl h;obtain⟨c,e,rfl,q⟩:=h;show Dt _ [.fz c.obj,.fz (dE e)];unfold Dt;have n1:¬(Str.ofString "top"=Str.ofString "left"):=by decide +kernel
 have n2:¬(Str.ofString "bottom"=Str.ofString "left"):=by decide +kernel
 have n3:¬(Str.ofString "right"=Str.ofString "left"):=by decide +kernel
 have n4:¬(Str.ofString "top"=Str.ofString "right"):=by decide +kernel
 have n5:¬(Str.ofString "bottom"=Str.ofString "right"):=by decide +kernel
 cases e with
 | lf=>
  unfold dE;walk_at "px";refine⟨_,rfl,?_⟩;walk_at "px";exact q
 | tp n=>
  unfold dE;walk_at "px";refine⟨_,rfl,?_⟩;walk_at "px";rw[if_neg n1];walk_at "go";refine⟨_,rfl,?_⟩;walk_at "px";rw[if_neg n4];walk_at "go";exact⟨_,rfl,q⟩
 | bt n=>
  unfold dE;walk_at "px";refine⟨_,rfl,?_⟩;walk_at "px";rw[if_neg n2];walk_at "go";refine⟨_,rfl,?_⟩;walk_at "px";rw[if_neg n5];walk_at "go";exact⟨_,rfl,q⟩
 | rt=>
  unfold dE;walk_at "px";refine⟨_,rfl,?_⟩;walk_at "px";rw[if_neg n3];walk_at "go";refine⟨_,rfl,?_⟩;walk_at "px";unfold bN.obj;walk_at "px";refine⟨_,rfl,?_⟩;unfold dP;walk_at "px";rw[ae];exact q
noncomputable def pl(c:bN)(w:Str):List Int:=
 (if w∈c.left then [-1] else [])++(((List.range c.top.length).filter fun n=>c.top[n]?==some (some w)||c.bw[n]?==some (some w)).map fun(n:Nat)=>(n:Int))++(if w∈c.right then [(c.top.length:Int)] else [])
theorem Ge(c:bN)(w:Str):(pl c w).Pairwise (·<·):=by
 unfold pl;have uU:∀x∈(((List.range c.top.length).filter fun n=>c.top[n]?==some (some w)||c.bw[n]?==some (some w)).map fun(n:Nat)=>(n:Int)),0<=x/\x<c.top.length:=by
  intro x hx;rw[aN] at hx;obtain⟨n,hn,rfl⟩:=hx;rw[bf,List.mem_range] at hn;omega
 have oo:(((List.range c.top.length).filter fun n=>c.top[n]?==some (some w)||c.bw[n]?==some (some w)).map fun(n:Nat)=>(n:Int)).Pairwise (·<·):=by
  rw[List.pairwise_map];refine List.Pairwise.imp ?_ (List.Pairwise.filter _ List.pairwise_lt_range);intro a b h;omega
 generalize (((List.range c.top.length).filter fun n=>c.top[n]?==some (some w)||c.bw[n]?==some (some w)).map fun(n:Nat)=>(n:Int))=mid at uU oo;rw[List.pairwise_append,List.pairwise_append];refine⟨⟨by split<;>simp,oo,fun a ha b hb=>?_⟩,by split<;>simp,fun a ha b hb=>?_⟩
 ·split at ha
  ·have:=uU b hb;simp at ha;omega
  ·cases ha
 ·split at hb
  ·rcases av.mp ha with ha | ha
   ·split at ha
    ·simp at ha hb;omega
    ·cases ha
   ·have:=uU a ha;simp at hb;omega
  ·cases hb
theorem N8(c:bN)(w:Str)(k:Int):k∈(mO c w).map (oN c)↔k∈pl c w:=by
 unfold mO pl;simp only[aE,av];have h1:k∈(if w∈c.left then [En.lf] else []).map (oN c)↔k∈(if w∈c.left then [(-1:Int)] else []):=by split<;>simp[oN]
 have h3:k∈(if w∈c.right then [En.rt] else []).map (oN c)↔k∈(if w∈c.right then [(c.top.length:Int)] else []):=by split<;>simp[oN]
 rw[h1,h3];have h2:k∈((List.range c.top.length).flatMap (ny c w)).map (oN c)↔k∈(((List.range c.top.length).filter fun n=>c.top[n]?==some (some w)||c.bw[n]?==some (some w)).map fun(n:Nat)=>(n:Int)):=by
  simp only[aN,List.mem_flatMap,List.mem_range,bf,Bool.or_eq_true,beq_iff_eq];constructor
  ·rintro⟨e,⟨n,hn,he⟩,rfl⟩;unfold ny at he;rcases av.mp he with h | h
   ·split at h
    ·rename_i ht;simp at h;subst h;exact⟨n,⟨hn,.inl ht⟩,rfl⟩
    ·cases h
   ·split at h
    ·rename_i hb;simp at h;subst h;exact⟨n,⟨hn,.inr hb⟩,rfl⟩
    ·cases h
  ·rintro⟨n,⟨hn,ht | hb⟩,rfl⟩
   ·exact⟨.tp n,⟨n,hn,by simp[ny,ht]⟩,rfl⟩
   ·exact⟨.bt n,⟨n,hn,by simp[ny,hb]⟩,rfl⟩
 rw[h2]
noncomputable def xg:List Int->D
 | []=>.non
 | a::r=>if a=(a::r).getLast (by simp) then .non else .tup [.int a,.int ((a::r).getLast (by simp))]
def yg:eX:=fun ds Q=>∃(c:bN) (w:Str),ds=[c.obj,.str w]/\l9 c/\Q (.fz (xg (pl c w)))
def Dq:TX:=(b8 (df 2 (hJ (iS (fq 2 vS (bF (bz 0) (bF (bz 1) bQ)))) [none,some 0] (dy 0) lF (fq 2 yk (bF (bz 1) (bF (bz 0) bQ)))))
 (b8 (eO (cL (bE (gM fun i j=>.bl (decide (i<j))) (ek As (bF (bz 2) bQ)) (dC (.int 2)))) (ft (dC .non)) fb)
 (ft (gq (bF (ek sL (bF (bz 2) bQ)) (bF (ek vi (bF (bz 2) bQ)) bQ))))))
theorem CH{a:Int}{r:List Int}(h:(a::r).Pairwise (·<·)):∀x∈a::r,x<=(a::r).getLast (by simp):=by
 induction r generalizing a with
 | nil=>intro x hx;simp at hx;simp[hx]
 | cons b r ih=>
  intro x hx;rw[aW] at h;rw[List.getLast_cons (by simp)];rcases ah.mp hx with rfl | hx
  ·have:=h.1 b (by simp);have:=ih h.2 b (by simp);omega
  ·exact ih h.2 x hx
theorem RR:jw 2 yg Dq ["channel","name","columns"]:=by
 intro ds Qr hl h;obtain⟨c,w,rfl,sh,q⟩:=h;show Dq _ [.fz c.obj,.fz (.str w),.un];unfold Dq;have big:=ie;walk_at "px";have Bo:(mO c w).length<=2*c.top.length+2:=by
  unfold mO;simp only[aj];have:=CI c w c.top.length;have a:∀(b:Prop) [Decidable b] (x:En),(if b then [x] else []).length<=1:=fun b _ x=>by split<;>simp
  have a1:=a (w∈c.left) .lf;have a2:=a (w∈c.right) .rt;omega
 have hw:=sh.w;refine qH (mO c w) dE (fun e=>.int (oN c e)) (fun Q' h=>?_) (by omega) (fun e he K1 k=>?_) ?_
 ·walk_at "px";exact⟨c,w,rfl,sh,h⟩
 ·walk_at "px";exact⟨c,e,rfl,k⟩
 have e0:(mO c w).map (fun e=>D.int (oN c e))=((mO c w).map (oN c)).map D.int:=by simp
 rw[e0];have hm:=N8 c w;have oo:=Ge c w;have tP:(pl c w).Nodup:=oo.imp fun h=>by omega
 have zr:((mO c w).map (oN c)).length<=1000:=by rw[ae];omega
 generalize (mO c w).map (oN c)=cols at hm zr ⊢;generalize pl c w=p at hm oo tP q ⊢;walk_at "go";simp only[As,xY];refine⟨by omega,fun l ln lm=>?_⟩;have iF:l.Perm p:=(List.perm_ext_iff_of_nodup ln tP).mpr fun k=>by rw[lm,hm]
 have hlen:=iF.length_eq;walk_at "px";match p,oo,hm,hlen,q with
 | [],_,_,hlen,q=>
  rw[if_pos (by rw[hlen];decide)];exact q
 | [a],_,_,hlen,q=>
  rw[if_pos (by rw[hlen];simp)];simpa[xg] using q
 | a::b::r,oo,hm,hlen,q=>
  rw[if_neg (by rw[hlen];simp only[aB];omega)];walk_at "go";try simp only[sL,vi,xY]
  have eP:cols≠[]:=fun z=>by have:=(hm a).mpr (by simp);rw[z] at this;cases this
  refine⟨eP,fun m pU jJ=>⟨eP,fun M Fp Fo=>⟨by omega,?_⟩⟩⟩;have em:m=a:=by
   have h1:=jJ a ((hm a).mpr (by simp));have h2:=(hm m).mp pU;rcases ah.mp h2 with h | h
   ·exact h
   ·have:=(aW.mp oo).1 m h;omega
  have eM:M=(a::b::r).getLast (by simp):=by
   have h1:=Fo _ ((hm _).mpr (List.getLast_mem (by simp:a::b::r≠[])));have h2:=CH oo M ((hm M).mp Fp);omega
  have eR:a<(a::b::r).getLast (by simp):=by
   have h1:=(aW.mp oo).1 b (by simp);have h2:=CH oo b (by simp);omega
  subst em eM;simp only[xg] at q;rw[if_neg (by omega)] at q;exact q
end Wc
namespace Wc
open PySem L2 PyProof.Rows
def i3(c:bN)(w:Str):Prop:=some w∈c.top\/some w∈c.bw\/w∈c.left\/w∈c.right
def vR:eX:=fun ds Q=>∃(c:bN) (ws:List Str),ds=[c.obj]/\l9 c/\ws.length<=40/\(∀w,i3 c w->w∈ws)/\∀l:List Str,l.Nodup->(∀w,w∈l↔i3 c w)->sortedS l=true->Q (.ow (l.map D.str))
def Dc:TX:=(b8 (df 1 (hJ (iS (bE dA (ib "top" (bz 0)) (ib "bottom" (bz 0)))) [none] (dy 0) (cL (bE (pq true) (bz 0) (dC .non))) (bz 0)))
 (ft (ek AG (bF (bE dA (bE dA (bz 1) (ib "left" (bz 0))) (ib "right" (bz 0))) bQ))))
theorem Ii{l ws:List Str}(nd:l.Nodup)(h:∀w∈l,w∈ws):l.length<=ws.length:=by
 induction l generalizing ws with
 | nil=>simp
 | cons a r ih=>
  rw[aY] at nd;have ha:a∈ws:=h a (by simp);have:=ih (ws:=ws.erase a) nd.2 fun w hw=>(List.mem_erase_of_ne fun(z:w=a)=>nd.1 (z▸hw)).mpr (h w (by simp[hw]))
  rw[List.length_erase_of_mem ha] at this;have hp:0<ws.length:=List.length_pos_of_mem ha;simp only[aB];omega
theorem Q3:jw 1 vR Dc ["channel","pins"]:=by
 intro ds Qr hl h;obtain⟨c,ws,rfl,sh,kO,hm,q⟩:=h;show Dc _ [.fz c.obj,.un];unfold Dc bN.obj;have big:=ie;have hw:=sh.w;have hb:=sh.b;walk_at "px";refine rK (c.top++c.bw) dO dO (fun x=>x.isSome) (fun Q' h=>?_) (by simp;omega) (fun x hx K1 K0 k1 k0=>?_) ?_
 ·walk_at "px";refine⟨_,rfl,_,rfl,?_⟩;unfold dP;walk_at "px";refine⟨by simp;omega,?_⟩;rw[aE] at h;exact h
 ·walk_at "px";cases x with
  | none=>exact k0 rfl
  | some x=>exact k1 rfl
 rw[Oa];have fR:((c.top++c.bw).filterMap id).length<=100:=by
  refine aT (List.length_filterMap_le _ _) ?_;simp;omega
 have wt:∀w,w∈(c.top++c.bw).filterMap id↔some w∈c.top\/some w∈c.bw:=by
  intro w;simp[List.mem_filterMap]
 generalize (c.top++c.bw).filterMap id=pins at fR wt ⊢;walk_at "go";refine⟨_,rfl,?_⟩;unfold dS;walk_at "px";have ET:=sh.l;have VR:=sh.r;refine⟨by simp;omega,_,rfl,?_⟩;walk_at "px";refine⟨by simp;omega,?_⟩;rw[<-aE,<-aE];simp only[AG,AH];have mm:∀w,w∈pins++c.left++c.right↔i3 c w:=by
  intro w;simp only[av,wt,i3];constructor
  ·rintro(((h | h) | h) | h)
   ·exact .inl h
   ·exact .inr (.inl h)
   ·exact .inr (.inr (.inl h))
   ·exact .inr (.inr (.inr h))
  ·rintro(h | h | h | h)
   ·exact .inl (.inl (.inl h))
   ·exact .inl (.inl (.inr h))
   ·exact .inl (.inr h)
   ·exact .inr h
 refine⟨by simp;omega,fun l nd h=>?_,fun l nd h hs=>q l nd (fun w=>by rw[h,mm]) hs⟩;have:=Ii nd fun w hw=>hm w ((mm w).mp (h w hw))
 omega
end Wc
namespace Wc
open PySem L2 PyProof.Rows
noncomputable def oM:List Int->Option (Int×Int)
 | []=>none
 | a::r=>if a=(a::r).getLast (by simp) then none else some (a,(a::r).getLast (by simp))
theorem NG(p:List Int):xg p=match oM p with | none=>.non | some q=>.tup [.int q.1,.int q.2]:=by
 cases p with
 | nil=>rfl
 | cons a r=>
  simp only[xg,oM];by_cases h:a=(a::r).getLast (by simp)
  ·rw[if_pos h,if_pos h]
  ·rw[if_neg h,if_neg h]
structure lj (c:bN) (l:List Str):Prop where
 nd:l.Nodup
 mem:∀w,w∈l↔i3 c w
 yJ:sortedS l=true
structure tZ (c:bN):Prop where
 sh:l9 c
 tV:∃ws:List Str,ws.length<=40/\∀w,i3 c w->w∈ws
 wl:c.wide.length<=100
 bl:c.bH.length<=100
theorem Ag{α:Type}{p:α->Bool}:∀{l:List α} {i:Nat} {x:α},l[i]?=some x->p x=true->(∀y∈l.take i,p y=false)->l.find? p=some x
 | [],i,x,h,_,_=>by simp at h
 | a::l,0,x,h,hp,_=>by
  simp at h;rw[h,List.find?_cons,hp]
 | a::l,i+1,x,h,hp,hn=>by
  rw[List.find?_cons,hn a (by simp)];exact Ag (by simpa using h) hp fun y hy=>hn y (by simp[hy])
theorem AB{α:Type}{p:α->Prop}{l:List α}{i:Nat}{x:α}(h:l[i]?=some x)(hp:∀y∈l.take i,p y)(hx:p x):∀y∈l.take (i+1),p y:=by
 intro y hy;rw[List.take_add_one,h] at hy;rcases av.mp hy with hy | hy
 ·exact hp y hy
 ·simp at hy;rw[hy];exact hx
theorem C9{α:Type}{p:α->Bool}{l:List α}(h:∀y∈l.take l.length,p y=false):l.find? p=none:=by
 rw[List.take_length] at h;exact List.find?_eq_none.mpr fun x hx=>by rw[h x hx];decide
noncomputable def oP(c:bN)(w:Str):Bool:=decide ((mO c w).length=1)
noncomputable def yc:iJ:=fun ds Q Qx=>∃c:bN,ds=[c.obj]/\tZ c/\∀l,lj c l->match l.find? (oP c) with
 | none=>Q (.fz .non)
 | some w=>Qx "Lone" "word" (.fz (.str w))
def AV(Qx:XQ):TX:=(j8 (iS (fq 1 vR (bF (bz 0) bQ))) (dy 1) (eO (cL (bE oEq (ek jY (bF (fq 2 vS (bF (bz 0) (bF (bz 1) bQ))) bQ)) (dC (.int 1)))) (rG "Lone" "word" Qx (bz 1)) fb))
theorem Sr(ds:List D)(Qr:R->Prop)(Qx:XQ)(hl:ds.length=1)(h:yc ds Qr Qx):AV Qx { nx:=fun _=>Qr (.fz .non),rt:=Qr } (lS ["channel","name"] ds):=by
 obtain⟨c,rfl,s,q⟩:=h;obtain⟨ws,kO,tV⟩:=s.tV;show AV Qx _ [.fz c.obj,.un];unfold AV;refine HJ (fun ds=>∃l,lj c l/\ds=l.map D.str) (fun Q' h=>?_) ?_
 ·walk_at "px";exact⟨c,ws,rfl,s.sh,kO,tV,fun l nd mem yJ=>h _ ⟨l,⟨nd,mem,yJ⟩,rfl⟩⟩
 rintro _ ⟨l,hN,rfl⟩;have ql:=q l hN;refine QU l D.str (fun i ρ=>(∃a:Sl,ρ=[.fz c.obj,a])/\∀y∈l.take i,oP c y=false) ⟨⟨_,rfl⟩,by simp⟩ ?_ ?_
 ·rintro i x ρ hx ⟨⟨a,rfl⟩,hb⟩;walk_at "px";refine⟨c,x,rfl,s.sh,?_⟩;walk_at "px";rw[ae];by_cases h1:(mO c x).length=1
  ·rw[if_pos (by omega)];rw[Ag hx (show oP c x=true by unfold oP;exact decide_eq_true h1) hb] at ql;unfold rG;walk_at "px";exact ql
  ·rw[if_neg (by omega)];exact⟨⟨_,rfl⟩,AB hx hb (by unfold oP;exact aL h1)⟩
 ·rintro ρ ⟨_,hb⟩;rw[C9 hb] at ql;exact ql
noncomputable def rp(c:bN):List Str:=c.wide.map (·.1)++c.bH.map (·.2)
noncomputable def yo:iJ:=fun ds Q Qx=>∃c:bN,ds=[c.obj]/\tZ c/\∀l,lj c l->match (rp c).find? (fun w=>decide (w∉l)) with
 | none=>Q (.fz .non)
 | some w=>Qx "NoNet" "word" (.fz (.str w))
def AX(Qx:XQ):TX:=(b8 (df 1 (fq 1 vR (bF (bz 0) bQ)))
 (b8 (df 2 (bE dA (hJ (iS (ib "wide" (bz 0))) [none,none] (mG 2 (fZ (dy 0) (fZ (dy 1) jZ))) lF (bz 0)) (hJ (iS (ib "bends" (bz 0))) [none,none] (mG 2 (fZ (dy 0) (fZ (dy 1) jZ))) lF (bz 1))))
 (j8 (iS (bz 2)) (dy 3) (eO (cL (bE (jv true) (bz 3) (bz 1))) (rG "NoNet" "word" Qx (bz 3)) fb))))
theorem S7(ds:List D)(Qr:R->Prop)(Qx:XQ)(hl:ds.length=1)(h:yo ds Qr Qx):AX Qx { nx:=fun _=>Qr (.fz .non),rt:=Qr } (lS ["channel","nets","names","name"] ds):=by
 obtain⟨c,rfl,s,q⟩:=h;obtain⟨ws,kO,tV⟩:=s.tV;show AX Qx _ [.fz c.obj,.un,.un,.un];unfold AX;have big:=ie;have h1:=s.wl;have h2:=s.bl;walk_at "px";refine⟨c,ws,rfl,s.sh,kO,tV,fun l nd mem yJ=>?_⟩;have ql:=q l ⟨nd,mem,yJ⟩;walk_at "go";refine qH c.wide lL (fun p=>.str p.1) (fun Q' h=>?_) (by omega) (fun x hx K1 k=>?_) ?_
 ·unfold bN.obj;walk_at "px";exact⟨_,rfl,h⟩
 ·unfold lL;walk_at "px";exact k
 refine qH c.bH i6 (fun p=>.str p.2) (fun Q' h=>?_) (by omega) (fun x hx K1 k=>?_) ?_
 ·unfold bN.obj;walk_at "px";exact⟨_,rfl,h⟩
 ·unfold i6;walk_at "px";exact k
 walk_at "px";refine⟨by simp only[aj,ae];omega,?_⟩;have e0:c.wide.map (fun p=>D.str p.1)++c.bH.map (fun p=>D.str p.2)=(rp c).map D.str:=by unfold rp;rw[aE,br,br];rfl
 rw[e0];simp only[mM];refine C3 (rp c) D.str (fun Q' h=>?_) (fun i ρ=>(∃a:Sl,ρ=[.fz c.obj,.fz (.lst (l.map D.str)),.fz (.lst ((rp c).map D.str)),a])/\∀y∈(rp c).take i,decide (y∉l)=false) ⟨⟨_,rfl⟩,by simp⟩ ?_ ?_
 ·walk_at "px";exact h
 ·rintro i x ρ hx ⟨⟨a,rfl⟩,hb⟩;walk_at "px";refine⟨qG 8 _,?_⟩;by_cases Bf:x∈l
  ·simp only[Bf,decide_true,Bool.not_true,ay,aX];exact⟨⟨_,rfl⟩,AB hx hb (by simp[Bf])⟩
  ·simp only[Bf,decide_false,Bool.not_false,bh];rw[Ag hx (by simp[Bf]) hb] at ql;unfold rG;walk_at "px";exact ql
 ·rintro ρ ⟨_,hb⟩;rw[C9 hb] at ql;exact ql
noncomputable def vf(c:bN)(n:Nat)(w:Str):Bool:=decide (c.top[n]?=some (some w))||decide (c.bw[n]?=some (some w))||(decide (c.top[n]?=some none)&&decide (c.bw[n]?=some none))
noncomputable def cZ(c:bN)(p:Int×Str):Bool:=match oM (pl c p.2) with
 | none=>false
 | some q=>decide (q.1<p.1)&&decide (p.1<q.2)&&vf c p.1.toNat p.2
theorem LO(c:bN)(w:Str):∀k∈pl c w,-1<=k/\k<=c.top.length:=by
 intro k hk;unfold pl at hk;rcases av.mp hk with h | h
 ·rcases av.mp h with h | h
  ·split at h
   ·simp at h;omega
   ·cases h
  ·obtain⟨n,hn,rfl⟩:=aN.mp h;have:=List.mem_range.mp (bf.mp hn).1;omega
 ·split at h
  ·simp at h;omega
  ·cases h
theorem Hf(c:bN)(w:Str){q:Int×Int}(h:oM (pl c w)=some q):-1<=q.1/\q.2<=c.top.length:=by
 have b:=LO c w;generalize pl c w=l at h b;cases l with
 | nil=>cases h
 | cons a r=>
  simp only[oM] at h;split at h
  ·cases h
  ·cases h;exact⟨(b a (by simp)).1,(b _ (List.getLast_mem _)).2⟩
def xV:eX:=fun ds Q=>∃(c:bN) (p:Int×Str),ds=[c.obj,.int p.1,.str p.2]/\l9 c/\Q (.fz (.bl (cZ c p)))
def Dk:TX:=(b8 (df 3 (fq 2 yg (bF (bz 0) (bF (bz 2) bQ))))
 (b8 (eO (sD (cL (bE (pq false) (bz 3) (dC .non))) (sM (cL (uh (gM fun i j=>.bl (decide (i<j))) (gM fun i j=>.bl (decide (i<j))) (bE cM (bz 3) (dC (.int 0))) (bz 1) (bE cM (bz 3) (dC (.int 1))))))) (ft (dC (.bl false))) fb)
 (b8 (df 4 (gq (bF (bE cM (ib "top" (bz 0)) (bz 1)) (bF (bE cM (ib "bottom" (bz 0)) (bz 1)) bQ))))
 (ft (FD (bE (jv false) (bz 2) (bz 4)) (bE oEq (bz 4) (gq (bF (dC .non) (bF (dC .non) bQ)))))))))
theorem Ri:jw 3 xV Dk ["channel","column","name","stretch","pins"]:=by
 intro ds Qr hl h;obtain⟨c,p,rfl,s,q⟩:=h;show Dk _ [.fz c.obj,.fz (.int p.1),.fz (.str p.2),.un,.un];unfold Dk;have big:=ie;walk_at "px";refine⟨c,p.2,rfl,s,?_⟩;rw[NG];unfold cZ at q;cases e:oM (pl c p.2) with
 | none=>
  rw[e] at q;walk_at "go";exact q
 | some z=>
  obtain⟨a,b⟩:=z;rw[e] at q;obtain⟨b1,b2⟩:=Hf c p.2 e;dsimp only at q b1 b2;walk_at "go";refine⟨.int a,rfl,?_⟩;walk_at "px";by_cases Be:a<p.1
  ·rw[if_pos Be];refine⟨.int b,rfl,?_⟩;walk_at "px";by_cases Bd:p.1<b
   ·rw[if_neg (by simp[Bd])];walk_at "go";unfold bN.obj;walk_at "px";refine⟨_,rfl,?_⟩;unfold dP;obtain⟨n,hn⟩:∃n:Nat,p.1=n:=⟨p.1.toNat,by omega⟩
    rw[hn] at q ⊢;have o5:n<c.top.length:=by omega
    have J8:n<c.bw.length:=by rw[s.b];exact o5
    walk_at "px";refine⟨_,kJ o5,_,rfl,?_⟩;walk_at "px";refine⟨_,kJ J8,?_⟩;refine⟨by omega,?_⟩;rw[Int.toNat_natCast] at q;unfold vf at q;rw[ao o5,ao J8] at q;simp only[Option.some.injEq] at q;generalize c.top[n]=x at q ⊢;generalize c.bw[n]=y at q ⊢;walk_at "go";have D4:∀u v:Option Str,dg 9 (D.tup [dO u,dO v]):=fun u v=>by
     intro d hd;simp only[ah,aK,or_false] at hd;rcases hd with rfl | rfl<;>(rw[rA];trivial)
    refine⟨D4 x y,?_⟩;have ei:inD (.str p.2) [dO x,dO y]=(decide (x=some p.2)||decide (y=some p.2)):=by
     simp[inD,tj]
    rw[ei];have l1:decide (a<(n:Int))=true:=decide_eq_true (by omega);have l2:decide ((n:Int)<b)=true:=decide_eq_true (by omega);rw[l1,l2] at q;cases hv:(decide (x=some p.2)||decide (y=some p.2)) with
    | true=>
     rw[hv] at q;simpa using q
    | false=>
     rw[hv] at q;simp only[ay,aX];refine⟨by omega,D4 x y,D4 none none,?_⟩;have et:cW (.tup [dO x,dO y]) (.tup [D.non,D.non])=(decide (x=none)&&decide (y=none)):=by
      cases x<;>cases y<;>rfl
     rw[et];simpa using q
   ·rw[if_pos (by simp[Bd])];have l2:decide (p.1<b)=false:=aL Bd;rw[l2] at q;simpa using q
  ·rw[if_neg Be];have l1:decide (a<p.1)=false:=aL Be;rw[l1] at q;simpa using q
noncomputable def yv:iJ:=fun ds Q Qx=>∃c:bN,ds=[c.obj]/\tZ c/\match c.bH.find? (fun p=>!cZ c p) with
 | none=>Q (.fz .non)
 | some p=>Qx "BadBend" "column" (.fz (.int p.1))
def AU(Qx:XQ):TX:=(j8 (iS (ib "bends" (bz 0))) (mG 2 (fZ (dy 1) (fZ (dy 2) jZ))) (eO (sM (cL (fq 3 xV (bF (bz 0) (bF (bz 1) (bF (bz 2) bQ)))))) (rG "BadBend" "column" Qx (bz 1)) fb))
theorem Se(ds:List D)(Qr:R->Prop)(Qx:XQ)(hl:ds.length=1)(h:yv ds Qr Qx):AU Qx { nx:=fun _=>Qr (.fz .non),rt:=Qr } (lS ["channel","column","name"] ds):=by
 obtain⟨c,rfl,s,q⟩:=h;show AU Qx _ [.fz c.obj,.un,.un];unfold AU;refine C3 c.bH i6 (fun Q' h=>?_) (fun i ρ=>(∃a b:Sl,ρ=[.fz c.obj,a,b])/\∀y∈c.bH.take i,(!cZ c y)=false) ⟨⟨_,_,rfl⟩,by simp⟩ ?_ ?_
 ·unfold bN.obj;walk_at "px";exact⟨_,rfl,h⟩
 ·rintro i x ρ hx ⟨⟨a,b,rfl⟩,hb⟩;unfold i6;walk_at "px";refine⟨c,x,rfl,s.sh,?_⟩;walk_at "px";cases hv:cZ c x with
  | true=>
   simp only[Bool.not_true,ay,aX];exact⟨⟨_,_,rfl⟩,AB hx hb (by rw[hv];rfl)⟩
  | false=>
   simp only[Bool.not_false,bh];rw[Ag hx (by rw[hv];rfl) hb] at q;unfold rG;walk_at "px";exact q
 ·rintro ρ ⟨_,hb⟩;rw[C9 hb] at q;exact q
noncomputable def lO(W:Nat)(k:Int×Int×Int):Bool:=decide (k.1<=k.2.1)&&decide (k.2.1<W)&&(decide (1<=k.2.2)&&decide (k.2.2<=3))
def xU:eX:=fun ds Q=>∃(W:Nat) (k:Int×Int×Int),ds=[.int W,jj k]/\Q (.fz (.bl (lO W k)))
def Dj:TX:=(ft (xj (uh (gM fun i j=>.bl (decide (i<=j))) (gM fun i j=>.bl (decide (i<j))) (bE cM (bz 1) (dC (.int 0))) (bE cM (bz 1) (dC (.int 1))) (bz 0)) (uh (gM fun i j=>.bl (decide (i<=j))) (gM fun i j=>.bl (decide (i<=j))) (dC (.int 1)) (bE cM (bz 1) (dC (.int 2))) (dC (.int 3)))))
theorem Rh:jw 2 xU Dj ["columns","keep"]:=by
 intro ds Qr hl h;obtain⟨W,k,rfl,q⟩:=h;show Dj _ [.fz (.int W),.fz (jj k)];unfold Dj jj;unfold lO at q;walk_at "px";refine⟨.int k.1,rfl,.int k.2.1,rfl,?_⟩;walk_at "px";by_cases h1:k.1<=k.2.1
 ·rw[if_pos h1];by_cases h2:k.2.1<W
  ·rw[if_pos h2];refine⟨.int k.2.2,rfl,?_⟩;dsimp only;by_cases h3:1<=k.2.2
   ·rw[if_pos h3];simpa[h1,h2,h3] using q
   ·rw[if_neg h3];simpa[h1,h2,h3] using q
  ·rw[if_neg h2];simpa[h1,h2] using q
 ·rw[if_neg h1];simpa[h1] using q
noncomputable def yu:iJ:=fun ds Q Qx=>∃c:bN,ds=[c.obj]/\tZ c/\match c.keeps.findIdx? (fun k=>!lO c.top.length k) with
 | none=>Q (.fz .non)
 | some i=>Qx "BadKeep" "place" (.fz (.int i))
theorem Ca{α:Type}{p:α->Bool}:∀{l:List α} {i:Nat} {x:α},l[i]?=some x->p x=true->(∀y∈l.take i,p y=false)->l.findIdx? p=some i
 | [],i,x,h,_,_=>by simp at h
 | a::l,0,x,h,hp,_=>by
  simp at h;rw[h,List.findIdx?_cons,hp];rfl
 | a::l,i+1,x,h,hp,hn=>by
  rw[List.findIdx?_cons,hn a (by simp),Ca (by simpa using h) hp fun y hy=>hn y (by simp[hy])];rfl
theorem N7{α:Type}{p:α->Bool}{l:List α}(h:∀y∈l.take l.length,p y=false):l.findIdx? p=none:=by
 rw[List.take_length] at h;exact List.findIdx?_eq_none_iff.mpr h
def AS(Qx:XQ):TX:=(j8 (xr (bF (ib "keeps" (bz 0)) bQ)) (mG 2 (fZ (dy 1) (fZ (dy 2) jZ))) (eO (sM (cL (fq 2 xU (bF (ek jY (bF (ib "top" (bz 0)) bQ)) (bF (bz 2) bQ))))) (rG "BadKeep" "place" Qx (bz 1)) fb))
theorem Sd(ds:List D)(Qr:R->Prop)(Qx:XQ)(hl:ds.length=1)(h:yu ds Qr Qx):AS Qx { nx:=fun _=>Qr (.fz .non),rt:=Qr } (lS ["channel","place","keep"] ds):=by
 obtain⟨c,rfl,s,q⟩:=h;show AS Qx _ [.fz c.obj,.un,.un];unfold AS;refine Io c.keeps jj (fun Q' h=>?_) (fun i ρ=>(∃a b:Sl,ρ=[.fz c.obj,a,b])/\∀y∈c.keeps.take i,(!lO c.top.length y)=false) ⟨⟨_,_,rfl⟩,by simp⟩ ?_ ?_
 ·unfold bN.obj;walk_at "px";exact⟨_,rfl,h⟩
 ·rintro i x ρ hx ⟨⟨a,b,rfl⟩,hb⟩;walk_at "px";unfold bN.obj;walk_at "px";refine⟨_,rfl,?_⟩;unfold dP;walk_at "px";rw[ae];refine⟨c.top.length,x,rfl,?_⟩;walk_at "px";cases hv:lO c.top.length x with
  | true=>
   simp only[Bool.not_true,ay,aX];exact⟨⟨_,_,rfl⟩,AB hx hb (by rw[hv];rfl)⟩
  | false=>
   simp only[Bool.not_false,bh];rw[Ca hx (by rw[hv];rfl) hb] at q;unfold rG;walk_at "px";exact q
 ·rintro ρ ⟨_,hb⟩;rw[N7 hb] at q;exact q
noncomputable def B9(c:bN):Option (Str×Str×D):=(c.keeps.findIdx? fun k=>!lO c.top.length k).map fun i=>("BadKeep","place",.int i)
noncomputable def z8(c:bN):Option (Str×Str×D):=match c.bH.find? fun p=>!cZ c p with
 | some p=>some ("BadBend","column",.int p.1)
 | none=>B9 c
noncomputable def B8(c:bN)(l:List Str):Option (Str×Str×D):=match (rp c).find? fun w=>decide (w∉l) with
 | some w=>some ("NoNet","word",.str w)
 | none=>z8 c
noncomputable def sO(c:bN)(l:List Str):Option (Str×Str×D):=match l.find? (oP c) with
 | some w=>some ("Lone","word",.str w)
 | none=>B8 c l
def BI(f:Option (Str×Str×D))(Q:Prop)(Qx:XQ):Prop:=match f with
 | none=>Q
 | some (a,b,d)=>Qx a b (.fz d)
noncomputable def rJ:iJ:=fun ds Q Qx=>∃c:bN,ds=[c.obj]/\tZ c/\∀l,lj c l->BI (sO c l) (Q (.fz (.bl true))) Qx
def AO(Qx:XQ):TX:=(b8 (vp (nY 1 yc Qx (bF (bz 0) bQ)))
 (b8 (vp (nY 1 yo Qx (bF (bz 0) bQ)))
 (b8 (vp (nY 1 yv Qx (bF (bz 0) bQ)))
 (b8 (vp (nY 1 yu Qx (bF (bz 0) bQ)))
 (ft (dC (.bl true)))))))
theorem SS(ds:List D)(Qr:R->Prop)(Qx:XQ)(hl:ds.length=1)(h:rJ ds Qr Qx):AO Qx { nx:=fun _=>Qr (.fz .non),rt:=Qr } (lS ["channel"] ds):=by
 obtain⟨c,rfl,s,q⟩:=h;show AO Qx _ [.fz c.obj];unfold AO nY;walk_at "px";refine⟨c,rfl,s,fun l1 N1=>?_⟩;have q1:=q l1 N1;unfold sO at q1;cases e1:l1.find? (oP c) with
 | some w=>
  rw[e1] at q1;exact q1
 | none=>
  walk_at "go";refine⟨c,rfl,s,fun l N=>?_⟩;have e2:l.find? (oP c)=none:=List.find?_eq_none.mpr fun x hx=>List.find?_eq_none.mp e1 x ((N1.mem x).mpr ((N.mem x).mp hx))
  have q2:=q l N;unfold sO B8 at q2;rw[e2] at q2;cases e3:(rp c).find? (fun w=>decide (w∉l)) with
  | some w=>
   rw[e3] at q2;exact q2
  | none=>
   rw[e3] at q2;walk_at "go";refine⟨c,rfl,s,?_⟩;dsimp only at q2;unfold z8 at q2;cases e4:c.bH.find? (fun p=>!cZ c p) with
   | some p=>
    rw[e4] at q2;exact q2
   | none=>
    rw[e4] at q2;walk_at "go";refine⟨c,rfl,s,?_⟩;dsimp only at q2;unfold B9 at q2;cases e5:c.keeps.findIdx? (fun k=>!lO c.top.length k) with
    | some i=>
     rw[e5] at q2;exact q2
    | none=>
     rw[e5] at q2;walk_at "go";exact q2
noncomputable def yb:iJ:=fun ds Q Qx=>∃(d:D) (e:D),ds=[d,e]/\rJ [e] Q Qx
def AL(Qx:XQ):TX:=(ft (nY 1 rJ Qx (bF (bz 1) bQ)))
theorem SA(ds:List D)(Qr:R->Prop)(Qx:XQ)(hl:ds.length=2)(h:yb ds Qr Qx):AL Qx { nx:=fun _=>Qr (.fz .non),rt:=Qr } (lS ["_law_which","_law_channel_here"] ds):=by
 obtain⟨d,e,rfl,q⟩:=h;show AL Qx _ [.fz d,.fz e];unfold AL nY;walk_at "px";exact q
end Wc
namespace Wc
open PySem L2 PyProof.Rows
end Wc
open PySem L2 PyProof.Rows Wc
local macro_rules | `(tactic| walk_at "px")=>`(tactic| (repeat(first | walk_at "b" | simp only[tj,AF,vA,rA,sP,xm,oU,sV,pB,Gg,qA,OV.val,rn])))
namespace Wc
open PySem L2 PyProof.Rows
noncomputable def j0(c:bN):List (List D):=[c.top.map dO,c.bw.map dO,c.left.map .str,c.right.map .str,c.wide.map lL,c.bH.map i6,c.keeps.map jj]
theorem vz(l:List Str):(l.map D.str).all px=true:=by simp[px,qA]
theorem LN(l:List Str):kI (l.map D.str)=some l:=by
 induction l with
 | nil=>rfl
 | cons a l ih=>simp[kI,ih]
theorem vV{l:List Str}{w:Str}{Q:R->Prop}(h:l.length<=20)(k:∀l':List Str,l'.Perm (l++[w])->Q (.ow (l'.map D.str))):oV [D.lst (l.map D.str++[D.str w])] Q:=by
 have e:l.map D.str++[D.str w]=(l++[w]).map D.str:=by simp
 rw[e];unfold oV;simp only[LN];exact⟨by simp;omega,fun jr p _=>k jr p⟩
theorem qU{α:Type}(a:α)(l:List α):fF (a::l) 0=some a:=kJ (j:=0) (by simp)
theorem xf{α:Type}(a b:α)(l:List α):fF (a::b::l) 1=some b:=kJ (j:=1) (by simp)
theorem BH{α:Type}(a b c d e f:α)(l:List α):fF (a::b::c::d::e::f::l) 5=some f:=kJ (j:=5) (by simp)
theorem Lw{α:Type}(a b c d e:α)(l:List α):fF (a::b::c::d::e::l) 4=some e:=kJ (j:=4) (by simp)
def GG(c c':bN)(w0 w1 d:Str):Prop:=c'.top=c.top/\c'.bw=c.bw/\c'.wide=c.wide/\c'.bH=c.bH/\c'.keeps=c.keeps/\
 (((d=w0\/d=w1)/\(c'.left.Perm (c.left++[d])/\c'.right=c.right\/c'.left=c.left/\c'.right.Perm (c.right++[d])))\/(d=w0/\c'.left.Perm (c.left++[w1])/\c'.right.Perm (c.right++[w0])))
noncomputable def yf:kz:=fun cg ds Qr=>∃(c:bN) (w0 w1:Str) (r:List Str) (m:Int),cg=j0 c/\ds=[dS (w0::w1::r),.int m]/\c.left.length<=20/\c.right.length<=20/\∀c' d,GG c c' w0 w1 d->Qr (.tup [.str "lone",.str d]) (j0 c')
def AK(a:Addr)(Qr:D->List (List D)->Prop):TX:=(b8 (eO (cL (bE oEq (bE (oI (fun _ j=>0<j) fun i j=>.int (i%j)) (bz 2) (dC (.int 2))) (dC (.int 0)))) (b8 (df 3 (bE dA (dC (.int 2)) (bE (oI (fun _ j=>0<j) fun i j=>.int (i%j)) (bE (oI fc fun i j=>.int (i/j)) (bz 2) (dC (.int 2))) (dC (.int 2)))))
 (b8 (oU 0 (bz 3) (pB 0 (ek oV (bF (bE dA (bE cM (bz 0) (bz 3)) (fX (bF (bE cM (bz 1) (bE (oI (fun _ j=>0<j) fun i j=>.int (i%j)) (bE (oI fc fun i j=>.int (i/j)) (bz 2) (dC (.int 4))) (dC (.int 2)))) bQ))) bQ))))
 (sV 0 a Qr (gq (bF (dC (.str "lone")) (bF (bE cM (bz 1) (bE (oI (fun _ j=>0<j) fun i j=>.int (i%j)) (bE (oI fc fun i j=>.int (i/j)) (bz 2) (dC (.int 4))) (dC (.int 2)))) bQ)))))) fb)
 (b8 (oU 0 (dC (.int 2)) (pB 0 (ek oV (bF (bE dA (bE cM (bz 0) (dC (.int 2))) (fX (bF (bE cM (bz 1) (dC (.int 1))) bQ))) bQ))))
 (b8 (oU 0 (dC (.int 3)) (pB 0 (ek oV (bF (bE dA (bE cM (bz 0) (dC (.int 3))) (fX (bF (bE cM (bz 1) (dC (.int 0))) bQ))) bQ))))
 (sV 0 a Qr (gq (bF (dC (.str "lone")) (bF (bE cM (bz 1) (dC (.int 0))) bQ)))))))
theorem RQ(a:Addr)(cg:List (List D))(ds:List D)(Qr:D->List (List D)->Prop)(hl:ds.length=2)(h:yf cg ds Qr):AK a Qr { nx:=fun _=>False,rt:=fun _=>False } (uv ["_law_lots","_law_words","_law_mix_here","_law_side"] a cg ds):=by
 obtain⟨c,w0,w1,r,m,rfl,rfl,hL,hR,q⟩:=h;show AK a Qr _ [.ov (.li a (j0 c)),.fz (dS (w0::w1::r)),.fz (.int m),.un];unfold AK dS;have big:=ie;walk_at "px";have jJ:m/2%2=0\/m/2%2=1:=by omega
 have UL:m/4%2=0\/m/4%2=1:=by omega
 split
 ·walk_at "go";rcases jJ with e2 | e2<;>rcases UL with e4 | e4<;>rw[e2,e4]
  ·refine⟨_,rfl,_,qU _ _,by omega,by rw[ae];omega,vV hL fun l' p=>⟨vz l',_,rfl,?_⟩⟩;walk_at "go";rw[e4];exact⟨_,qU _ _,by omega,q { c with left:=l' } w0 ⟨rfl,rfl,rfl,rfl,rfl,.inl ⟨.inl rfl,.inl ⟨p,rfl⟩⟩⟩⟩
  ·refine⟨_,rfl,_,xf _ _ _,by omega,by rw[ae];omega,vV hL fun l' p=>⟨vz l',_,rfl,?_⟩⟩;walk_at "go";rw[e4];exact⟨_,xf _ _ _,by omega,q { c with left:=l' } w1 ⟨rfl,rfl,rfl,rfl,rfl,.inl ⟨.inr rfl,.inl ⟨p,rfl⟩⟩⟩⟩
  ·refine⟨_,rfl,_,qU _ _,by omega,by rw[ae];omega,vV hR fun l' p=>⟨vz l',_,rfl,?_⟩⟩;walk_at "go";rw[e4];exact⟨_,qU _ _,by omega,q { c with right:=l' } w0 ⟨rfl,rfl,rfl,rfl,rfl,.inl ⟨.inl rfl,.inr ⟨rfl,p⟩⟩⟩⟩
  ·refine⟨_,rfl,_,xf _ _ _,by omega,by rw[ae];omega,vV hR fun l' p=>⟨vz l',_,rfl,?_⟩⟩;walk_at "go";rw[e4];exact⟨_,xf _ _ _,by omega,q { c with right:=l' } w1 ⟨rfl,rfl,rfl,rfl,rfl,.inl ⟨.inr rfl,.inr ⟨rfl,p⟩⟩⟩⟩
 ·walk_at "go";refine⟨_,rfl,_,xf _ _ _,by omega,by rw[ae];omega,vV hL fun l' p=>⟨vz l',_,rfl,?_⟩⟩;walk_at "go";refine⟨_,rfl,_,qU _ _,by omega,by rw[ae];omega,vV hR fun r' p'=>⟨vz r',_,rfl,?_⟩⟩;walk_at "go";exact⟨_,qU _ _,by omega,q { c with left:=l',right:=r' } w0 ⟨rfl,rfl,rfl,rfl,rfl,.inr ⟨rfl,p,p'⟩⟩⟩
noncomputable def eW(p:Str×Int):EK:=[.inr p.1,.inl p.2]
def Ih(c c':bN)(s2 s3:Str):Prop:=∃(wd:List (Str×Int)) (k:Int),c'={ c with wide:=wd }/\(wd.Perm (c.wide++[(s2,k)])\/wd.Perm (c.wide++[(s2,k),(s3,k)]))/\wd.Pairwise fun x y=>Ts.jM (eW y) (eW x)=false
noncomputable def ye:kz:=fun cg ds Qr=>∃(c:bN) (s0 s1 s2 s3:Str) (r:List Str) (m:Int),cg=j0 c/\ds=[dS (s0::s1::s2::s3::r),.int m]/\c.wide.length<=20/\∀c',Ih c c' s2 s3->Qr (.tup [.str "nonet",.str s2]) (j0 c')
theorem He(l:List (Str×Int)):l.map lL=(l.map eW).map tW:=by rw[br];rfl
theorem NF{l:List EK}{r:List (Str×Int)}(h:l.Perm (r.map eW)):∃l':List (Str×Int),l=l'.map eW/\l'.Perm r:=by
 refine⟨l.map fun e=>match e with | [.inr w,.inl k]=>(w,k) | _=>("",0),?_,?_⟩
 ·rw[br];have:∀e∈l,(eW∘fun e:EK=>match e with | [.inr w,.inl k]=>(w,k) | _=>("",0)) e=e:=fun e he=>by
   obtain⟨p,_,rfl⟩:=aN.mp (h.mem_iff.mp he);rfl
  exact(List.map_congr_left this).symm▸(List.map_id' l).symm
 ·have:=h.map fun e:EK=>match e with | [.inr w,.inl k]=>((w,k):Str×Int) | _=>("",0)
  rw[br] at this;have e2:r.map ((fun e:EK=>match e with | [.inr w,.inl k]=>((w,k):Str×Int) | _=>("",0))∘eW)=r:=by
   conv=>rhs;rw[<-List.map_id' r]
   exact List.map_congr_left fun p _=>rfl
  rw[e2] at this;exact this
theorem LM(l:List (Str×Int)):(l.map lL).all px=true:=by simp[px,qA,lL]
theorem PF{l:List (Str×Int)}{Q:R->Prop}(h:l.length<64)(k:∀l':List (Str×Int),l'.Perm l->(l'.Pairwise fun x y=>Ts.jM (eW y) (eW x)=false)->Q (.ow (l'.map lL))):Cb (fun n=>n<64) [D.lst (l.map lL)] Q:=by
 refine⟨true,[false],l.map eW,by rw[He],fun p hp=>?_,by rw[ae];exact h,fun j5 pm pw=>?_⟩
 ·obtain⟨q,_,rfl⟩:=aN.mp hp;rfl
 ·obtain⟨l',rfl,p2⟩:=NF pm;rw[<-He];exact k l' p2 (List.pairwise_map.mp pw)
def AR(a:Addr)(Qr:D->List (List D)->Prop):TX:=(b8 (df 3 (jN (bz 1) (iT (dC (.int 2))) (iT (bE dA (dC (.int 3)) (bE (oI (fun _ j=>0<j) fun i j=>.int (i%j)) (bz 2) (dC (.int 2)))))))
 (b8 (df 4 (hJ (iS (bz 3)) [none,some 2] (dy 0) lF (gq (bF (bz 0) (bF (bE dA (dC (.int 2)) (bE (oI (fun _ j=>0<j) fun i j=>.int (i%j)) (bE (oI fc fun i j=>.int (i/j)) (bz 1) (dC (.int 2))) (dC (.int 2)))) bQ)))))
 (b8 (oU 0 (dC (.int 4)) (pB 0 (ek (Cb fun n=>n<64) (bF (bE dA (bE cM (bz 0) (dC (.int 4))) (bz 4)) bQ))))
 (sV 0 a Qr (gq (bF (dC (.str "nonet")) (bF (bE cM (bz 3) (dC (.int 0))) bQ)))))))
theorem Sb(a:Addr)(cg:List (List D))(ds:List D)(Qr:D->List (List D)->Prop)(hl:ds.length=2)(h:ye cg ds Qr):AR a Qr { nx:=fun _=>False,rt:=fun _=>False } (uv ["_law_lots","_law_words","_law_mix_here","_law_some","_law_more"] a cg ds):=by
 obtain⟨c,s0,s1,s2,s3,r,m,rfl,rfl,hW,q⟩:=h;show AR a Qr _ [.ov (.li a (j0 c)),.fz (dS (s0::s1::s2::s3::r)),.fz (.int m),.un,.un];unfold AR dS;have big:=ie;have jJ:m%2=0\/m%2=1:=by omega
 walk_at "px";have cut:∃L:List Str,(L=[s2]\/L=[s2,s3])/\iR (D.str s0::D.str s1::D.str s2::D.str s3::r.map D.str) (some 2) (some (3+m%2))=L.map D.str:=by
  rcases jJ with e | e<;>rw[e,HK _ (by omega) (by omega)]
  ·exact⟨_,.inl rfl,rfl⟩
  ·exact⟨_,.inr rfl,rfl⟩
 obtain⟨L,hL,e⟩:=cut;rw[e];have h2:L.length<=2:=by rcases hL with rfl | rfl<;>simp
 walk_at "go";refine qH L D.str (fun w=>lL (w,2+m/2%2)) (fun Q' h=>?_) (by omega) (fun x hx K1 k=>?_) ?_
 ·walk_at "px";exact h
 ·walk_at "px";exact⟨by omega,k⟩
 walk_at "go";refine⟨_,rfl,by simp only[ae];omega,?_⟩;have e2:c.wide.map lL++L.map (fun w=>lL (w,2+m/2%2))=(c.wide++L.map fun w=>(w,2+m/2%2)).map lL:=by simp
 rw[e2];refine PF (by simp only[aj,ae];omega) fun wd p pw=>⟨LM wd,_,rfl,?_⟩
 walk_at "go";rcases hL with rfl | rfl
 ·exact⟨_,qU _ _,by omega,q { c with wide:=wd } ⟨wd,_,rfl,.inl p,pw⟩⟩
 ·exact⟨_,qU _ _,by omega,q { c with wide:=wd } ⟨wd,_,rfl,.inr p,pw⟩⟩
def HF(c c':bN)(s4 s5:Str):Prop:=∃k1 k2:Int,c'={ c with bH:=c.bH++[(k1,s5)] }\/c'={ c with bH:=c.bH++[(k1,s5),(k2,s4)] }
noncomputable def yt:kz:=fun cg ds Qr=>∃(c:bN) (s0 s1 s2 s3 s4 s5:Str) (r:List Str) (m:Int),cg=j0 c/\ds=[dS (s0::s1::s2::s3::s4::s5::r),.int m]/\c.bH.length<=60/\∀c',HF c c' s4 s5->Qr (.tup [.str "nonet",.str s5]) (j0 c')
theorem Ce(l:List (Int×Str)):(l.map i6).all px=true:=by simp[px,qA,i6]
theorem GF(l:List (Int×Int×Int)):(l.map jj).all px=true:=by simp[px,qA,jj]
def AW(a:Addr)(Qr:D->List (List D)->Prop):TX:=(b8 (df 3 (bE dA (rn 0 (ek jY (bF (bE cM (bz 0) (dC (.int 0))) bQ))) (bE (oI (fun _ j=>0<j) fun i j=>.int (i%j)) (bE (oI fc fun i j=>.int (i/j)) (bz 2) (dC (.int 2))) (dC (.int 9)))))
 (b8 (oU 0 (dC (.int 5)) (pB 0 (bE dA (bE cM (bz 0) (dC (.int 5))) (fX (bF (gq (bF (bz 3) (bF (bE cM (bz 1) (dC (.int 5))) bQ))) bQ)))))
 (b8 (eO (cL (bE oEq (bE (oI (fun _ j=>0<j) fun i j=>.int (i%j)) (bz 2) (dC (.int 2))) (dC (.int 1)))) (oU 0 (dC (.int 5)) (pB 0 (bE dA (bE cM (bz 0) (dC (.int 5))) (fX (bF (gq (bF (bE dA (bE dA (bz 3) (dC (.int 1))) (bE (oI (fun _ j=>0<j) fun i j=>.int (i%j)) (bE (oI fc fun i j=>.int (i/j)) (bz 2) (dC (.int 18))) (dC (.int 9)))) (bF (bE cM (bz 1) (dC (.int 4))) bQ))) bQ))))) fb)
 (sV 0 a Qr (gq (bF (dC (.str "nonet")) (bF (bE cM (bz 1) (dC (.int 5))) bQ)))))))
theorem S1(a:Addr)(cg:List (List D))(ds:List D)(Qr:D->List (List D)->Prop)(hl:ds.length=2)(h:yt cg ds Qr):AW a Qr { nx:=fun _=>False,rt:=fun _=>False } (uv ["_law_lots","_law_words","_law_mix_here","_law_first"] a cg ds):=by
 obtain⟨c,s0,s1,s2,s3,s4,s5,r,m,rfl,rfl,hB,q⟩:=h;show AW a Qr _ [.ov (.li a (j0 c)),.fz (dS (s0::s1::s2::s3::s4::s5::r)),.fz (.int m),.un];unfold AW dS;have big:=ie;walk_at "px";refine⟨_,rfl,?_⟩;generalize ((c.top.map dO).length:Int)+m/2%9=k1;walk_at "go";refine⟨_,rfl,_,BH _ _ _ _ _ _ _,?_⟩;refine⟨by omega,by omega,by rw[ae];omega,by have:=Ce (c.bH++[(k1,s5)]);simpa[i6] using this,_,rfl,?_⟩;have e1:c.bH.map i6++[D.tup [.int k1,.str s5]]=(c.bH++[(k1,s5)]).map i6:=by simp[i6]
 rw[e1];walk_at "go";split
 ·refine⟨_,rfl,_,Lw _ _ _ _ _ _,by omega,by omega,by rw[ae,aj];simp;omega,by have:=Ce (c.bH++[(k1,s5)]++[(k1+1+m/18%9,s4)]);simpa[i6] using this,_,rfl,?_⟩;walk_at "go";refine⟨_,BH _ _ _ _ _ _ _,by omega,?_⟩;have:=q { c with bH:=c.bH++[(k1,s5),(k1+1+m/18%9,s4)] } ⟨k1,_,.inr rfl⟩;simpa[j0,i6] using this
 ·walk_at "go";exact⟨_,BH _ _ _ _ _ _ _,by omega,q _ ⟨k1,0,.inl rfl⟩⟩
def vY:eX:=fun ds Q=>∃(m:Int) (W:Nat),ds=[.int m,.int W]/\1<=W/\W<=40/\∀k:Int×Int×Int,lO W k=false->Q (.fz (jj k))
def Ds:TX:=(b8 (df 2 (bE (oI (fun _ j=>0<j) fun i j=>.int (i%j)) (bE (oI fc fun i j=>.int (i/j)) (bz 0) (dC (.int 8))) (bz 1)))
 (b8 (eO (cL (bE oEq (bE (oI (fun _ j=>0<j) fun i j=>.int (i%j)) (bz 0) (dC (.int 4))) (dC (.int 0)))) (ft (gq (bF (bE dA (bz 2) (dC (.int 1))) (bF (bz 2) (bF (dC (.int 1)) bQ))))) fb)
 (b8 (eO (cL (bE oEq (bE (oI (fun _ j=>0<j) fun i j=>.int (i%j)) (bz 0) (dC (.int 4))) (dC (.int 1)))) (ft (gq (bF (bz 2) (bF (bE dA (bz 1) (bE (oI (fun _ j=>0<j) fun i j=>.int (i%j)) (bE (oI fc fun i j=>.int (i/j)) (bz 0) (dC (.int 512))) (bE (gM fun i j=>.int (i-j)) (dC (.int 100)) (bz 1)))) (bF (dC (.int 2)) bQ))))) fb)
 (ft (gq (bF (bz 2) (bF (bz 2) (bF (bE cM (fX (bF (dC (.int 0)) (bF (dC (.int 4)) (bF (dC (.int 99)) (bF (dC (.int 17)) bQ))))) (bE (oI (fun _ j=>0<j) fun i j=>.int (i%j)) (bE (oI fc fun i j=>.int (i/j)) (bz 0) (dC (.int 512))) (dC (.int 4)))) bQ))))))))
theorem Ry:jw 2 vY Ds ["_law_mix_here","_law_width","_law_first"]:=by
 intro ds Qr hl h;obtain⟨m,W,rfl,h1,h2,q⟩:=h;show Ds _ [.fz (.int m),.fz (.int W),.un];unfold Ds;have big:=ie;walk_at "px";refine⟨by omega,?_⟩;have f0:0<=m/8%(W:Int):=aH _ (by omega);have f1:m/8%(W:Int)<W:=aJ _ (by omega);generalize m/8%(W:Int)=f at *;walk_at "go";split
 ·exact⟨by omega,q (f+1,f,1) (by simp[lO];omega)⟩
 ·walk_at "go";split
  ·have g0:0<=m/512%(100-(W:Int)):=aH _ (by omega);exact⟨by omega,by omega,q (f,W+m/512%(100-(W:Int)),2) (by simp[lO];omega)⟩
  ·walk_at "go";have g:m/512%4=0\/m/512%4=1\/m/512%4=2\/m/512%4=3:=by omega
   refine⟨by omega,?_⟩;rcases g with e | e | e | e<;>rw[e]
   ·exact⟨_,rfl,by omega,q (f,f,0) (by simp[lO])⟩
   ·exact⟨_,rfl,by omega,q (f,f,4) (by simp[lO])⟩
   ·exact⟨_,rfl,by omega,q (f,f,99) (by simp[lO])⟩
   ·exact⟨_,rfl,by omega,q (f,f,17) (by simp[lO])⟩
def Jd(c c':bN)(p:Nat):Prop:=∃(k:Int×Int×Int) (t:List (Int×Int×Int)),p<=c.keeps.length/\lO c.top.length k=false/\t.length<=c.keeps.length+1/\c'={ c with keeps:=c.keeps.take p++k::t }
noncomputable def yr:kz:=fun cg ds Qr=>∃(c:bN) (m:Int),cg=j0 c/\ds=[.int m]/\1<=c.top.length/\c.top.length<=40/\c.keeps.length<=60/\∀c' p,Jd c c' p->Qr (.tup [.str "keep",.int p]) (j0 c')
def AN(a:Addr)(Qr:D->List (List D)->Prop):TX:=(b8 (df 2 (bE (oI (fun _ j=>0<j) fun i j=>.int (i%j)) (bE (oI fc fun i j=>.int (i/j)) (bz 1) (dC (.int 4096))) (bE dA (rn 0 (ek jY (bF (bE cM (bz 0) (dC (.int 6))) bQ))) (dC (.int 1)))))
 (b8 (df 3 (fq 2 vY (bF (bE (oI fc fun i j=>.int (i/j)) (bz 1) (dC (.int 7))) (bF (rn 0 (ek jY (bF (bE cM (bz 0) (dC (.int 0))) bQ))) bQ))))
 (b8 (oU 0 (dC (.int 6)) (pB 0 (bE dA (bE dA (jN (bE cM (bz 0) (dC (.int 6))) kX (iT (bz 2))) (fX (bF (bz 3) bQ))) (jN (bE cM (bz 0) (dC (.int 6))) (iT (bz 2)) kX))))
 (b8 (eO (cL (bE oEq (bE (oI (fun _ j=>0<j) fun i j=>.int (i%j)) (bz 1) (dC (.int 2))) (dC (.int 1)))) (oU 0 (dC (.int 6)) (pB 0 (bE dA (bE cM (bz 0) (dC (.int 6))) (fX (bF (fq 2 vY (bF (bE (oI fc fun i j=>.int (i/j)) (bz 1) (dC (.int 11))) (bF (rn 0 (ek jY (bF (bE cM (bz 0) (dC (.int 0))) bQ))) bQ))) bQ))))) fb)
 (sV 0 a Qr (gq (bF (dC (.str "keep")) (bF (bz 2) bQ))))))))
theorem SM(a:Addr)(cg:List (List D))(ds:List D)(Qr:D->List (List D)->Prop)(hl:ds.length=1)(h:yr cg ds Qr):AN a Qr { nx:=fun _=>False,rt:=fun _=>False } (uv ["_law_lots","_law_mix_here","_law_place","_law_one"] a cg ds):=by
 obtain⟨c,m,rfl,rfl,hW,Fl,hK,q⟩:=h;show AN a Qr _ [.ov (.li a (j0 c)),.fz (.int m),.un,.un];unfold AN;have big:=ie;walk_at "px";refine⟨_,rfl,by omega,?_⟩;rw[ae];obtain⟨p,hp,o4⟩:∃p:Nat,m/4096%((c.keeps.length:Int)+1)=p/\p<=c.keeps.length:=by
  have h0:0<=m/4096%((c.keeps.length:Int)+1):=aH _ (by omega);have h1:m/4096%((c.keeps.length:Int)+1)<(c.keeps.length:Int)+1:=aJ _ (by omega);exact⟨(m/4096%((c.keeps.length:Int)+1)).toNat,by omega,by omega⟩
 rw[hp];walk_at "go";refine⟨_,rfl,?_⟩;rw[ae];refine⟨m/7,c.top.length,rfl,hW,Fl,fun k hk=>?_⟩;walk_at "go";have el:iR (c.keeps.map jj) none (some (p:Int))=(c.keeps.take p).map jj:=by rw[CL,uo _ (by omega),Int.toNat_natCast]
 have er:iR (c.keeps.map jj) (some (p:Int)) none=(c.keeps.drop p).map jj:=by rw[CL,Df _ (by omega),Int.toNat_natCast]
 have lt:(c.keeps.take p).length<=60:=by rw[aP];omega
 have ld:(c.keeps.drop p).length<=60:=by rw[List.length_drop];omega
 have ee:(c.keeps.take p).map jj++[jj k]++(c.keeps.drop p).map jj=(c.keeps.take p++k::c.keeps.drop p).map jj:=by simp
 refine⟨c.keeps.map jj,rfl,by omega,by rw[el,ae];omega,c.keeps.map jj,rfl,by rw[el,er,aj,ae,ae];simp only[aB,bu];omega,by rw[el,er,ee];exact GF _,_,rfl,?_⟩;rw[el,er,ee];have lk:(c.keeps.take p++k::c.keeps.drop p).length=c.keeps.length+1:=by simp;omega
 walk_at "go";split
 ·refine⟨_,rfl,_,rfl,m/11,c.top.length,by rw[ae],hW,Fl,fun k2 _=>?_⟩;have e3:(c.keeps.take p++k::c.keeps.drop p).map jj++[(R.fz (jj k2)).val]=(c.keeps.take p++k::(c.keeps.drop p++[k2])).map jj:=by simp[R.val]
  refine⟨by omega,by rw[ae,lk];omega,by rw[e3];exact GF _,_,rfl,?_⟩;rw[e3];walk_at "go";exact⟨by omega,q { c with keeps:=c.keeps.take p++k::(c.keeps.drop p++[k2]) } p ⟨k,_,o4,hk,by simp,rfl⟩⟩
 ·walk_at "go";exact⟨by omega,q { c with keeps:=c.keeps.take p++k::c.keeps.drop p } p ⟨k,_,o4,hk,by rw[List.length_drop];omega,rfl⟩⟩
end Wc
namespace Wc
open PySem L2 PyProof.Rows
noncomputable def eu:List Str:=["a","abc","b","hello","k","kkkkkk","kq","mzq","p","pq","q","r","wxyz","y","zzz","zzzzzw"]
def yw:eX:=fun ds Q=>∃ns:List Int,ds=[dI ns]/\ns.length<=1000/\Q (.ow (((eu.filter fun w=>decide (w∉mP (qN ns))).take 6).map D.str))
def DC:TX:=(b8 (df 1 (fq 1 vX (bF (ek qY (bF (jN (bz 0) kX (iT (dC (.int 1)))) bQ)) bQ)))
 (b8 (df 2 (fX (bF (dC (.str "a")) (bF (dC (.str "abc")) (bF (dC (.str "b")) (bF (dC (.str "hello")) (bF (dC (.str "k")) (bF (dC (.str "kkkkkk")) (bF (dC (.str "kq")) (bF (dC (.str "mzq")) (bF (dC (.str "p")) (bF (dC (.str "pq")) (bF (dC (.str "q")) (bF (dC (.str "r")) (bF (dC (.str "wxyz")) (bF (dC (.str "y")) (bF (dC (.str "zzz")) (bF (dC (.str "zzzzzw")) bQ))))))))))))))))))
 (ft (jN (hJ (iS (bz 2)) [none,some 1] (dy 0) (cL (bE (jv true) (bz 0) (bz 1))) (bz 0)) kX (iT (dC (.int 6)))))))
theorem SY:jw 1 yw DC ["_law_script","_law_own","_law_some"]:=by
 intro ds Qr hl h;obtain⟨ns,rfl,hn,q⟩:=h;show DC _ [.fz (dI ns),.un,.un];unfold DC dI;have big:=ie;walk_at "px";refine⟨_,rfl,?_⟩;rw[show(iR ns none (some 1)).sum=qN ns by unfold qN;rw[uo _ (by omega)];rfl];walk_at "go";refine⟨by omega,?_⟩;walk_at "go";refine rK eu D.str (fun w=>.str w) (fun w=>decide (w∉mP (qN ns))) (fun Q' h=>?_) (by rw[show eu.length=16 from rfl];omega) (fun x hx K1 K0 k1 k0=>?_) ?_
 ·walk_at "px";exact h
 ·walk_at "px";refine⟨qG 8 _,?_⟩;by_cases hm:x∈mP (qN ns)
  ·simp only[hm,decide_true,Bool.not_true,ay,aX];exact k0 (by simp[hm])
  ·simp only[hm,decide_false,Bool.not_false,bh];exact k1 (by simp[hm])
 walk_at "px";rw[uo _ (by omega)];exact q
end Wc
namespace Wc
open PySem L2 PyProof.Rows
theorem LK(c:bN):iR c.parts none (some 4)=[dP c.top,dP c.bw,dS c.left,dS c.right]:=by
 rw[uo _ (by omega)];rfl
theorem Ig(c:bN)(w:Str)(k:Int)(h:k∈pl c w):k∈places c.top c.bw c.left c.right w:=by
 unfold pl at h;unfold places;simp only[av] at h ⊢;rcases h with(h | h) | h
 ·exact .inl (.inr h)
 ·exact .inl (.inl h)
 ·exact .inr h
theorem LJ{c:bN}{w:Str}{q:Int×Int}(h:oM (pl c w)=some q):q.1∈pl c w/\q.2∈pl c w:=by
 generalize pl c w=l at h;cases l with
 | nil=>cases h
 | cons a r=>
  simp only[oM] at h;split at h
  ·cases h
  ·cases h;exact⟨by simp,List.getLast_mem _⟩
theorem GD{c:bN}{w:Str}{mn mx k:Int}(hn:qp mn (places c.top c.bw c.left c.right w++[99]))(hx:qr mx (places c.top c.bw c.left c.right w++[-9]))(h:k<=mn\/mx<=k):cZ c (k,w)=false:=by
 unfold cZ;dsimp only;cases e:oM (pl c w) with
 | none=>rfl
 | some q=>
  obtain⟨i1,i2⟩:=LJ e;have h1:=hn.2 q.1 (List.mem_append_left _ (Ig c w _ i1));have h2:=hx.2 q.2 (List.mem_append_left _ (Ig c w _ i2));dsimp only;rcases h with h | h
  ·rw[show decide (q.1<k)=false from aL (by omega)];rfl
  ·rw[show decide (k<q.2)=false from aL (by omega)];simp
theorem N3{c:bN}{w:Str}{k:Int}(h:(c.top.length:Int)<=k):cZ c (k,w)=false:=by
 unfold cZ;dsimp only;cases e:oM (pl c w) with
 | none=>rfl
 | some q=>
  have:=(Hf c w e).2;dsimp only;rw[show decide (k<q.2)=false from aL (by omega)];simp
theorem N2{c:bN}{w:Str}{k:Int}(h:vf c k.toNat w=false):cZ c (k,w)=false:=by
 unfold cZ;dsimp only;cases oM (pl c w) with
 | none=>rfl
 | some q=>dsimp only;rw[h];simp
theorem GC(n:Nat)(l:List Int):∀e∈l.map D.int,dg n e:=fun e he=>by
 obtain⟨k,_,rfl⟩:=aN.mp he;rw[xE];trivial
theorem GB(x:Int)(l:List Int):inD (.int x) (l.map .int)=decide (x∈l):=by
 unfold inD;rw[List.any_map];induction l with
 | nil=>rfl
 | cons a r ih=>
  rw[List.any_cons,ih,Function.comp_apply,Hi];by_cases h:a=x
  ·subst h;simp
  ·simp[h,Ne.symm h]
theorem LI{k:Int}:∀{l:List Int},k∈l->(l.filter fun z=>decide (k+1<=z)).length<(l.filter fun z=>decide (k<=z)).length:=by
 have le:∀l:List Int,(l.filter fun z=>decide (k+1<=z)).length<=(l.filter fun z=>decide (k<=z)).length:=fun l=>by
  induction l with
  | nil=>simp
  | cons a l ih=>
   rw[List.filter_cons,List.filter_cons];by_cases h1:k+1<=a
   ·rw[if_pos (by simpa using h1),if_pos (by simp;omega)];simp;omega
   ·rw[if_neg (by simpa using h1)];split
    ·rw[aB];omega
    ·exact ih
 intro l;induction l with
 | nil=>intro h;cases h
 | cons a l ih=>
  intro h;rw[List.filter_cons,List.filter_cons];by_cases h1:k=a
  ·subst h1;rw[if_neg (by simp;omega),if_pos (by simp)];have:=le l;simp;omega
  ·have:=ih ((ah.mp h).resolve_left h1);by_cases h2:k+1<=a
   ·rw[if_pos (by simpa using h2),if_pos (by simp;omega)];simp;omega
   ·rw[if_neg (by simpa using h2),if_neg (by simp;omega)];exact this
def yq:eX:=fun ds Q=>∃(c:bN) (w:Str) (m:Int),ds=[.lst c.parts,.str w,.int m]/\l9 c/\1<=c.top.length/\c.bH.length<=60/\∀k:Int,cZ c (k,w)=false->(∀p∈c.bH,p.1≠k)->Q (.fz (.int k))
def DN:TX:=(b8 (rg (jN (bz 0) kX (iT (dC (.int 4)))) (vh 4 (fZ (dy 3) (fZ (dy 4) (fZ (dy 5) (fZ (dy 6) jZ))))))
 (b8 (rg (fq 5 wb (bF (bz 3) (bF (bz 4) (bF (bz 5) (bF (bz 6) (bF (bz 1) bQ)))))) (mG 2 (fZ (dy 7) (fZ (dy 8) jZ))))
 (b8 (df 9 (hJ (iS (bE cM (bz 0) (dC (.int 5)))) [none] (dy 0) lF (bE cM (bz 0) (dC (.int 0)))))
 (b8 (mH 10 (fX bQ))
 (b8 (j8 (nu (bF (ek jY (bF (bz 3) bQ)) bQ)) (dy 11) (b8 (df 12 (hJ (iS (fX (bF (bE cM (bz 3) (bz 11)) (bF (bE cM (bz 4) (bz 11)) bQ)))) [none] (dy 0) (cL (bE (pq true) (bz 0) (dC .non))) (bz 0)))
 (b8 (df 13 (xj (bE yO (bz 12) (fX bQ)) (bE (jv true) (bz 1) (bz 12))))
 (eO (qt (cL (bE (jv true) (bz 11) (bz 9))) (sD (cL (bE (gM fun i j=>.bl (decide (i<=j))) (bz 11) (bz 7))) (sD (cL (bE (gM fun i j=>.bl (decide (j<=i))) (bz 11) (bz 8))) (cL (bz 13))))) (kG 10 (bz 11)) fb))))
 (b8 (eO (qt (cL (bE (gM fun i j=>.bl (decide (j<i))) (xq 10) (dC (.int 0)))) (cL (bE (gM fun i j=>.bl (decide (j<i))) (bE (oI (fun _ j=>0<j) fun i j=>.int (i%j)) (bz 2) (dC (.int 4))) (dC (.int 0))))) (ft (vj 10 (bE (oI (fun _ j=>0<j) fun i j=>.int (i%j)) (bE (oI fc fun i j=>.int (i/j)) (bz 2) (dC (.int 4))) (xq 10)))) fb)
 (b8 (df 14 (bE dA (ek jY (bF (bz 3) bQ)) (bE (oI (fun _ j=>0<j) fun i j=>.int (i%j)) (bE (oI fc fun i j=>.int (i/j)) (bz 2) (dC (.int 4))) (dC (.int 20)))))
 (b8 (GZ (cL (bE (jv false) (bz 14) (bz 9))) (df 14 (bE dA (bz 14) (dC (.int 1)))))
 (ft (bz 14))))))))))
theorem SK:jw 3 yq DN ["_law_lists","_law_word","_law_mix_here","_law_top","_law_bottom","_law_left","_law_right","_law_l","_law_r","_law_taken","_law_found","_law_c","_law_here","_law_others","_law_column"]:=by
 intro ds Qr hl h;obtain⟨c,w,m,rfl,s,hW,hB,q⟩:=h;show DN _ [.fz (.lst c.parts),.fz (.str w),.fz (.int m),.un,.un,.un,.un,.un,.un,.un,.un,.un,.un,.un,.un];unfold DN;have big:=ie;simp only[GL,rg,jN,bz,gt,kX,iT,dC,ug,LK,vh,fZ,dy,jZ];refine⟨rfl,?_⟩;walk_at "go";refine⟨c.top,c.bw,c.left,c.right,w,rfl,s.b,aT s.w (by omega),s.l,s.r,fun mn mx Kb Ka=>?_⟩;walk_at "go";refine qH c.bH i6 (fun p=>.int p.1) (fun Q' h=>?_) (by omega) (fun x hx K1 k=>?_) ?_
 ·walk_at "px";exact⟨_,rfl,h⟩
 ·unfold i6;walk_at "px";exact⟨_,rfl,k⟩
 walk_at "go";have uO:=s.w;have et:c.bH.map (fun p=>D.int p.1)=(c.bH.map (·.1)).map D.int:=by rw[br];rfl
 rw[et];generalize JY:c.bH.map (·.1)=tk;have VQ:tk.length<=60:=by rw[<-JY,ae];exact hB
 have Km:∀k:Int,k∉tk->∀p∈c.bH,p.1≠k:=fun k hk p hp e=>hk (by rw[<-JY,<-e];exact aI hp)
 refine⟨by omega,?_⟩;walk_at "go";refine ux c.top.length (fun Q' h=>?_) (fun i ρ=>∃(fs:List Int) (x1 x2 x3:Sl),ρ=[.fz (.lst c.parts),.fz (.str w),.fz (.int m),.fz (dP c.top),.fz (dP c.bw),.fz (dS c.left),.fz (dS c.right),.fz (.int mn),.fz (.int mx),.fz (.lst (tk.map D.int)),.ow (fs.map D.int),x1,x2,x3,.un]/\fs.length<=i/\∀k∈fs,cZ c (k,w)=false/\k∉tk) ⟨[],_,_,_,rfl,by simp,by simp⟩ ?_ ?_
 ·unfold dP;walk_at "px";rw[ae];exact⟨by omega,by omega,h⟩
 ·rintro i ρ hi ⟨fs,x1,x2,x3,rfl,UW,Bn⟩;have zh:i<c.bw.length:=by rw[s.b];exact hi
  walk_at "px";refine rK [c.top[i],c.bw[i]] dO dO (fun x=>x.isSome) (fun Q' h=>?_) (by simp;omega) (fun c hc K1 K0 k1 k0=>?_) ?_
  ·unfold dP;walk_at "px";exact⟨_,kJ hi,_,kJ (l:=c.bw) zh,by omega,h⟩
  ·walk_at "px";cases c with
   | none=>exact k0 rfl
   | some x=>exact k1 rfl
  have kZ:some w∈[c.top[i],c.bw[i]].filter (fun x=>x.isSome)↔c.top[i]=some w\/c.bw[i]=some w:=by
   simp only[bf,ah,aK,or_false,Option.isSome_some,and_true];constructor
   ·rintro(h | h)
    ·exact .inl h.symm
    ·exact .inr h.symm
   ·rintro(h | h)
    ·exact .inl h.symm
    ·exact .inr h.symm
  have sm:c.top[i]=none/\c.bw[i]=none->[c.top[i],c.bw[i]].filter (fun x=>x.isSome)=[]:=by
   rintro⟨h1,h2⟩;simp[h1,h2]
  have rY:[c.top[i],c.bw[i]].filter (fun x=>x.isSome)≠[]->some w∉[c.top[i],c.bw[i]].filter (fun x=>x.isSome)->cZ c ((i:Int),w)=false:=fun h1 h2=>by
   refine N2 ?_;rw[Int.toNat_natCast];unfold vf;rw[ao hi,ao zh];have n1:c.top[i]≠some w:=fun z=>h2 (kZ.mpr (.inl z))
   have n2:c.bw[i]≠some w:=fun z=>h2 (kZ.mpr (.inr z))
   have n3:¬(c.top[i]=none/\c.bw[i]=none):=fun z=>h1 (sm z)
   simp only[Option.some.injEq,n1,n2,decide_false,Bool.or_self,Bool.false_or];by_cases z:c.top[i]=none
   ·have:c.bw[i]≠none:=fun y=>n3 ⟨z,y⟩
    simp only[this,decide_false,Bool.and_false]
   ·simp only[z,decide_false,Bool.false_and]
  generalize [c.top[i],c.bw[i]].filter (fun x=>x.isSome)=here at rY ⊢;have go:∀(a b d:Sl),cZ c ((i:Int),w)=false->(i:Int)∉tk->∃(o7:List Int) (x1 x2 x3:Sl),[Sl.fz (.lst c.parts),.fz (.str w),.fz (.int m),.fz (dP c.top),.fz (dP c.bw),.fz (dS c.left),.fz (dS c.right),.fz (.int mn),.fz (.int mx),.fz (.lst (tk.map D.int)),.ow (fs.map D.int++[D.int i]),a,b,d,.un]=[.fz (.lst c.parts),.fz (.str w),.fz (.int m),.fz (dP c.top),.fz (dP c.bw),.fz (dS c.left),.fz (dS c.right),.fz (.int mn),.fz (.int mx),.fz (.lst (tk.map D.int)),.ow (o7.map D.int),x1,x2,x3,.un]/\o7.length<=i+1/\∀k∈o7,cZ c (k,w)=false/\k∉tk:=fun a b d h1 h2=>
   ⟨fs++[(i:Int)],a,b,d,by rw[aE];rfl,by simp;omega,fun k hk=>by
    rcases av.mp hk with h | h
    ·exact Bn k h
    ·rw[aO.mp h];exact⟨h1,h2⟩⟩
  have no:∀(a b d:Sl),∃(o7:List Int) (x1 x2 x3:Sl),[Sl.fz (.lst c.parts),.fz (.str w),.fz (.int m),.fz (dP c.top),.fz (dP c.bw),.fz (dS c.left),.fz (dS c.right),.fz (.int mn),.fz (.int mx),.fz (.lst (tk.map D.int)),.ow (fs.map D.int),a,b,d,.un]=[.fz (.lst c.parts),.fz (.str w),.fz (.int m),.fz (dP c.top),.fz (dP c.bw),.fz (dS c.left),.fz (dS c.right),.fz (.int mn),.fz (.int mx),.fz (.lst (tk.map D.int)),.ow (o7.map D.int),x1,x2,x3,.un]/\o7.length<=i+1/\∀k∈o7,cZ c (k,w)=false/\k∉tk:=fun a b d=>⟨fs,a,b,d,rfl,by omega,Bn⟩
  walk_at "go";refine⟨by omega,dg.mono (n:=1) (by omega) (by intro d hd;exact vL 0 here d hd),dg.mono (n:=1) (by omega) (by intro d hd;cases hd),?_⟩;generalize hK:mM (eO _ _ _) _=Kc;have fin:∀o:Bool,(o=true->cZ c ((i:Int),w)=false)->Kc [.fz (.lst c.parts),.fz (.str w),.fz (.int m),.fz (dP c.top),.fz (dP c.bw),.fz (dS c.left),.fz (dS c.right),.fz (.int mn),.fz (.int mx),.fz (.lst (tk.map D.int)),.ow (fs.map D.int),.fz (.int i),.fz (.lst (here.map dO)),.fz (.bl o),.un]:=fun o ho=>by
   subst hK;walk_at "go";rw[GB];refine⟨GC 8 tk,?_⟩;have lf:(fs.map D.int).length<sizeLine:=by rw[ae];omega
   by_cases ht:(i:Int)∈tk
   ·rw[if_neg (by simp[ht])];exact no _ _ _
   ·rw[if_pos (by simp[ht])];split
    ·rename_i h1;exact⟨lf,go _ _ _ (GD Kb Ka (.inl h1)) ht⟩
    ·split
     ·rename_i h1;exact⟨lf,go _ _ _ (GD Kb Ka (.inr h1)) ht⟩
     ·split
      ·rename_i h1;exact⟨lf,go _ _ _ (ho h1) ht⟩
      ·exact no _ _ _
  have e1:cW (D.lst (here.map dO)) (D.lst [])=decide (here=[]):=by cases here<;>rfl
  rw[e1];by_cases ce:here=[]
  ·rw[if_neg (by simp[ce])];exact fin _ (by simp[ce])
  ·rw[if_pos (by simp[ce])];refine⟨vL 8 here,fin _ fun h=>rY ce ?_⟩;simpa using h
 ·rintro ρ ⟨fs,x1,x2,x3,rfl,UW,Bn⟩;walk_at "go";rw[ae];generalize hK:mM (b8 _ _) _ _=Kc;have hG:Kc:=by
   subst hK;unfold dP;walk_at "go";rw[ae];simp only[mM];refine⟨fun n ρ=>∃k:Int,(c.top.length:Int)<=k/\ρ=[Sl.fz (D.lst c.parts),Sl.fz (D.str w),Sl.fz (D.int m),Sl.fz (D.lst (List.map dO c.top)),Sl.fz (D.lst (List.map dO c.bw)),Sl.fz (dS c.left),Sl.fz (dS c.right),Sl.fz (D.int mn),Sl.fz (D.int mx),Sl.fz (D.lst (List.map D.int tk)),Sl.ow (List.map D.int fs),x1,x2,x3,Sl.fz (D.int k)]/\n=(tk.filter fun z=>decide (k<=z)).length,⟨_,_,?_,rfl,rfl⟩,?_⟩
   ·have:0<=m/4%20:=aH _ (by omega);omega
   rintro n ρ ⟨k,hk,rfl,rfl⟩;walk_at "px";refine⟨GC 8 tk,?_⟩;rw[GB];by_cases h:k∈tk
   ·rw[if_pos (by simpa using h)];exact⟨_,LI h,k+1,by omega,rfl,rfl⟩
   ·rw[if_neg (by simpa using h)];exact q k (N3 hk) (Km k h)
  split
  ·split
   ·have h0:0<=m/4%(fs.length:Int):=aH _ (by omega);have h1:m/4%(fs.length:Int)<fs.length:=aJ _ (by omega);obtain⟨n,hn⟩:∃n:Nat,m/4%(fs.length:Int)=n:=⟨(m/4%(fs.length:Int)).toNat,by omega⟩
    rw[hn];have o5:n<fs.length:=by omega
    have hf:=Bn fs[n] (List.getElem_mem o5);exact⟨by omega,fs[n],kJ o5,q _ hf.1 (Km _ hf.2)⟩
   ·exact hG
  ·exact hG
end Wc
namespace Wc
open PySem L2 PyProof.Rows
theorem LH(l:List Int):jC (l.map D.int)=some l:=by
 induction l with
 | nil=>rfl
 | cons a l ih=>simp[jC,ih]
theorem GA:∀{l:List (Int×Str)},(l.map (·.1)).Nodup->∀a∈l,∀b∈l,a.1=b.1->a.2=b.2
 | [],_,_,h,_,_,_=>by cases h
 | p::l,nd,a,ha,b,hb,e=>by
  rw[au,aY] at nd;rcases ah.mp ha with rfl | Kq<;>rcases ah.mp hb with rfl | u4
  ·rfl
  ·exact absurd (by rw[e];exact aI (f:=(·.1)) u4) nd.1
  ·exact absurd (by rw[<-e];exact aI (f:=(·.1)) Kq) nd.1
  ·exact GA nd.2 a Kq b u4 e
structure ia (c c':bN) (ns:List Str) (d:Int):Prop where
 ex:∃new:List (Int×Str),c'.bH.Perm (c.bH++new)/\new.length<=2/\(∃p∈new,p.1=d)/\(∀p∈new,d<=p.1/\(cZ c p=false/\p.2∈ns)/\∀z∈c.bH,z.1≠p.1)/\(new.map (·.1)).Nodup
 up:c'.bH.Pairwise fun x y=>x.1<=y.1
 same:c'={ c with bH:=c'.bH }
noncomputable def yp:kz:=fun cg ds Qr=>∃(c:bN) (ns:List Str) (m:Int),cg=j0 c/\ds=[dS ns,.int m]/\ns≠[]/\ns.length<=100/\l9 c/\1<=c.top.length/\c.bH.length<=50/\(c.bH.map (·.1)).Nodup/\∀c' d,ia c c' ns d->Qr (.tup [.str "bend",.int d]) (j0 c')
def AM(a:Addr)(Qr:D->List (List D)->Prop):TX:=(b8 (mH 3 (fX bQ))
 (b8 (j8 (nu (bF (bE dA (dC (.int 1)) (bE (oI (fun _ j=>0<j) fun i j=>.int (i%j)) (bz 2) (dC (.int 2)))) bQ)) (dy 4) (b8 (df 5 (bE cM (bz 1) (bE (oI (fun _ j=>0<j) fun i j=>.int (i%j)) (bE (oI fc fun i j=>.int (i/j)) (bz 2) (bE dA (dC (.int 2)) (bE (oI iK fun i j=>.int (i*j)) (dC (.int 62)) (bz 4)))) (ek jY (bF (bz 1) bQ)))))
 (b8 (df 6 (rn 0 (fq 3 yq (bF (bz 0) (bF (bz 5) (bF (bE (oI fc fun i j=>.int (i/j)) (bz 2) (bE dA (dC (.int 128)) (bz 4))) bQ))))))
 (b8 (oU 0 (dC (.int 5)) (pB 0 (ek HR (bF (bE dA (bE cM (bz 0) (dC (.int 5))) (fX (bF (gq (bF (bz 6) (bF (bz 5) bQ))) bQ))) bQ))))
 (kG 3 (bz 6))))))
 (qZ 3 (sV 0 a Qr (gq (bF (dC (.str "bend")) (bF (ek sL (bF (bz 3) bQ)) bQ)))))))
theorem SJ(a:Addr)(cg:List (List D))(ds:List D)(Qr:D->List (List D)->Prop)(hl:ds.length=2)(h:yp cg ds Qr):AM a Qr { nx:=fun _=>False,rt:=fun _=>False } (uv ["_law_lots","_law_names","_law_mix_here","_law_found","_law_k","_law_word","_law_column"] a cg ds):=by
 obtain⟨c,ns,m,rfl,rfl,eP,EL,s,hW,hB,tP,q⟩:=h;show AM a Qr _ [.ov (.li a (j0 c)),.fz (dS ns),.fz (.int m),.un,.un,.un,.un];unfold AM dS;have big:=ie;walk_at "px";refine⟨by omega,?_⟩;walk_at "go";have jJ:m%2=0\/m%2=1:=by omega
 obtain⟨N,hN,Ku⟩:∃N:Nat,1+m%2=N/\1<=N/\N<=2:=⟨(1+m%2).toNat,by omega,by omega,by omega⟩
 refine ux N (fun Q' h=>?_) (fun i ρ=>∃(b new:List (Int×Str)) (x1 x2 x3:Sl),ρ=[.ov (.li a (j0 { c with bH:=b })),.fz (.lst (ns.map D.str)),.fz (.int m),.ow ((new.map (·.1)).map D.int),x1,x2,x3]/\new.length=i/\b.Perm (c.bH++new)/\(0<i->b.Pairwise fun x y=>x.1<=y.1)/\(b.map (·.1)).Nodup/\∀p∈new,cZ c p=false/\p.2∈ns) ⟨c.bH,[],_,_,_,rfl,rfl,by simp,fun h=>by omega,tP,by simp⟩ ?_ ?_
 ·walk_at "px";rw[hN];exact⟨by omega,by omega,h⟩
 ·rintro i ρ hi ⟨b,new,x1,x2,x3,rfl,Bk,hp,_,zu,u3⟩;have Fh:b.length=c.bH.length+i:=by rw[hp.length_eq,aj,Bk]
  walk_at "px";rw[ae];have UI:0<ns.length:=List.length_pos_iff.mpr eP;have h0:0<=m/(2+62*(i:Int))%(ns.length:Int):=aH _ (by omega);have h1:m/(2+62*(i:Int))%(ns.length:Int)<ns.length:=aJ _ (by omega);obtain⟨n,hn⟩:∃n:Nat,m/(2+62*(i:Int))%(ns.length:Int)=n:=⟨(m/(2+62*(i:Int))%(ns.length:Int)).toNat,by omega⟩
  rw[hn];refine⟨⟨by omega,by omega⟩,by omega,ns[n],kJ (by omega),?_⟩;have JU:ns[n]'(by omega)∈ns:=List.getElem_mem _;generalize ns[n]=w at JU ⊢;walk_at "go";refine⟨⟨by omega,by omega⟩,{ c with bH:=b },w,m/(128+(i:Int)),rfl,⟨s.w,s.b,s.l,s.r⟩,hW,(show b.length<=60 by omega),fun k hk r8=>⟨rfl,?_⟩⟩;have EJ:∀p∈b,p.1≠k:=r8
  have qL:cZ c (k,w)=false/\w∈ns:=⟨hk,JU⟩
  have zd:((b++[(k,w)]).map (·.1)).Nodup:=by
   rw[aE,List.nodup_append];refine⟨zu,by simp,fun x hx y hy e=>?_⟩;obtain⟨p,y7,rfl⟩:=aN.mp hx;rw[au,List.map_nil,aO] at hy;exact EJ p y7 (e.trans hy)
  walk_at "go";refine⟨_,rfl,by omega,by omega,(by show(List.map i6 b).length+1<=_;rw[ae];omega),b++[(k,w)],(by show [D.lst (List.map i6 b++_)]=_;rw[aE];rfl),by rw[aj];simp;omega,GA zd,fun b' wu Es=>⟨Ce b',_,rfl,?_⟩⟩;walk_at "go";refine⟨by simp only[ae];omega,b',new++[(k,w)],_,_,_,by rw[aE,aE];rfl,by rw[aj,Bk];rfl,(wu.trans (hp.append_right _)).trans (by rw[List.append_assoc]),fun _=>Es,(wu.map (·.1)).nodup_iff.mpr zd,fun p o4=>?_⟩;rcases av.mp o4 with h | h
  ·exact u3 p h
  ·rw[aO.mp h];exact qL
 ·rintro ρ ⟨b,new,x1,x2,x3,rfl,Bk,hp,oo,zu,u3⟩;walk_at "go";have D9:((c.bH++new).map (·.1)).Nodup:=(hp.map (·.1)).nodup_iff.mp zu;rw[aE,List.nodup_append] at D9;unfold sL;simp only[LH];refine⟨fun z=>?_,fun M hM hle=>⟨by omega,q { c with bH:=b } M ⟨⟨new,hp,by omega,?_,fun p o4=>⟨hle p.1 (aI o4),u3 p o4,fun z hz e=>D9.2.2 z.1 (aI hz) p.1 (aI o4) e⟩,D9.2.1⟩,oo (by omega),rfl⟩⟩⟩
  ·have:=congrArg List.length z;rw[ae,Bk,bu] at this;omega
  ·obtain⟨p,o4,e⟩:=aN.mp hM;exact⟨p,o4,e⟩
end Wc
namespace Wc
open PySem L2 PyProof.Rows
theorem Tc:(("NoNet":Str)="Lone")=False:=by simp;decide
theorem Tb:(("BadBend":Str)="Lone")=False:=by simp;decide
theorem Ta:(("BadKeep":Str)="Lone")=False:=by simp;decide
theorem S9:(("BadBend":Str)="NoNet")=False:=by simp;decide
theorem pH:(("BadKeep":Str)="NoNet")=False:=by simp;decide
theorem yx:(("BadKeep":Str)="BadBend")=False:=by simp;decide
end Wc
open PySem L2 PyProof.Rows Wc
local macro_rules | `(tactic| walk_at "px")=>`(tactic| (repeat(first | walk_at "b" | simp only[tj,AF,vA,rA,sP,xm,rn,rj,vw,Tc,Tb,Ta,S9,pH,yx,bh,aX])))
namespace Wc
open PySem L2 PyProof.Rows
theorem A9(l:List Bool):∀e∈l.map D.bl,dg 8 e:=fun e he=>by
 obtain⟨b,_,rfl⟩:=aN.mp he;exact trivial
theorem zS(k:Str)(d:D):List.lookup k [(k,d)]=some d:=by simp[List.lookup]
inductive Flt where
 | bZ (w:Str)
 | jG (w:Str)
 | qj (k:Int)
 | keep (i:Nat)
noncomputable def Flt.x:Flt->Str×Str×D
 | .bZ w=>("Lone","word",.str w)
 | .jG w=>("NoNet","word",.str w)
 | .qj k=>("BadBend","column",.int k)
 | .keep i=>("BadKeep","place",.int i)
noncomputable def Flt.d:Flt->D
 | .bZ w=>.tup [.str "lone",.str w]
 | .jG w=>.tup [.str "nonet",.str w]
 | .qj k=>.tup [.str "bend",.int k]
 | .keep i=>.tup [.str "keep",.int i]
def wa:eX:=fun ds Q=>∃(d:D) (c:bN) (f:Flt),ds=[d,c.obj]/\tZ c/\(∀l,lj c l->sO c l=some f.x)/\Q (.fz f.d)
def DI:TX:=(b8 (df 2 (dC .non))
 (b8 (BZ 3 2 yb (bF (bz 0) (bF (bz 1) bQ)) ["Lone","NoNet","BadBend","BadKeep"] (df 2 (bz 3)))
 (b8 (eO (sD (cL (rj "Lone" "NoNet" "BadBend" "BadKeep" false false false false (bz 2))) (sM (cL (rj "Lone" "NoNet" "BadBend" "BadKeep" true true true true (bz 2))))) (ft (gq (bF (dC (.str "other")) (bF (dC (.int 0)) bQ)))) fb)
 (b8 (eO (cL (rj "Lone" "NoNet" "BadBend" "BadKeep" false false false false (bz 2))) (ft (gq (bF (dC (.str "other")) (bF (dC (.int 0)) bQ)))) fb)
 (b8 (df 4 (fX (bF (rj "Lone" "NoNet" "BadBend" "BadKeep" true false false false (bz 2)) (bF (rj "Lone" "NoNet" "BadBend" "BadKeep" false true false false (bz 2)) bQ))))
 (b8 (df 4 (bE dA (bz 4) (fX (bF (rj "Lone" "NoNet" "BadBend" "BadKeep" false false true false (bz 2)) (bF (rj "Lone" "NoNet" "BadBend" "BadKeep" false false false true (bz 2)) bQ)))))
 (b8 (eO (cL (bE yO (dM "list" xt (bz 4) (bF (dC (.bl true)) bQ)) (dC (.int 1)))) (ft (gq (bF (dC (.str "other")) (bF (dC (.int 1)) bQ)))) fb)
 (b8 (eO (cL (bE cM (bz 4) (dC (.int 0)))) (ft (gq (bF (dC (.str "lone")) (bF (vw ["Lone","NoNet"] "word" (bz 2)) bQ)))) fb)
 (b8 (eO (cL (bE cM (bz 4) (dC (.int 1)))) (ft (gq (bF (dC (.str "nonet")) (bF (vw ["Lone","NoNet"] "word" (bz 2)) bQ)))) fb)
 (b8 (eO (cL (bE cM (bz 4) (dC (.int 2)))) (ft (gq (bF (dC (.str "bend")) (bF (vw ["BadBend"] "column" (bz 2)) bQ)))) fb)
 (ft (gq (bF (dC (.str "keep")) (bF (vw ["BadKeep"] "place" (bz 2)) bQ))))))))))))))
theorem Sq:jw 2 wa DI ["_law_which","_law_channel_here","_law_error","e","_law_kinds"]:=by
 intro ds Qr hl h;obtain⟨d,c,f,rfl,s,hf,q⟩:=h;show DI _ [.fz d,.fz c.obj,.un,.un,.un];unfold DI;have big:=ie;walk_at "px";unfold BZ;walk_at "go";refine⟨d,c.obj,rfl,c,rfl,s,fun l N=>?_⟩;rw[hf l N];cases f with
 | bZ w=>
  show _/\_;refine⟨by simp,_,rfl,?_⟩;walk_at "go";walk_at "go";walk_at "go";refine⟨by omega,?_⟩;walk_at "go";refine⟨by omega,by omega,?_⟩;walk_at "go";refine⟨rfl,A9 [true,false,false,false],?_⟩;rw[if_neg (by simp[mF,cW])];walk_at "go";refine⟨D.bl true,rfl,?_⟩;dsimp only;rw[if_pos rfl];exact⟨by simp,_,zS _ _,by omega,q⟩
 | jG w=>
  show _/\_;refine⟨by simp,_,rfl,?_⟩;walk_at "go";walk_at "go";walk_at "go";refine⟨by omega,?_⟩;walk_at "go";refine⟨by omega,by omega,?_⟩;walk_at "go";refine⟨rfl,A9 [false,true,false,false],?_⟩;rw[if_neg (by simp[mF,cW])];walk_at "go";refine⟨D.bl false,rfl,?_⟩;dsimp only;rw[if_neg az];walk_at "go";refine⟨D.bl true,rfl,?_⟩;dsimp only;rw[if_pos rfl];exact⟨by simp,_,zS _ _,by omega,q⟩
 | qj k=>
  show _/\_;refine⟨by simp,_,rfl,?_⟩;walk_at "go";walk_at "go";walk_at "go";refine⟨by omega,?_⟩;walk_at "go";refine⟨by omega,by omega,?_⟩;walk_at "go";refine⟨rfl,A9 [false,false,true,false],?_⟩;rw[if_neg (by simp[mF,cW])];walk_at "go";refine⟨D.bl false,rfl,?_⟩;dsimp only;rw[if_neg az];walk_at "go";refine⟨D.bl false,rfl,?_⟩;dsimp only;rw[if_neg az];walk_at "go";refine⟨D.bl true,rfl,?_⟩;dsimp only;rw[if_pos rfl];exact⟨by simp,_,zS _ _,by omega,q⟩
 | keep i=>
  show _/\_;refine⟨by simp,_,rfl,?_⟩;walk_at "go";walk_at "go";walk_at "go";refine⟨by omega,?_⟩;walk_at "go";refine⟨by omega,by omega,?_⟩;walk_at "go";refine⟨rfl,A9 [false,false,false,true],?_⟩;rw[if_neg (by simp[mF,cW])];walk_at "go";refine⟨D.bl false,rfl,?_⟩;dsimp only;rw[if_neg az];walk_at "go";refine⟨D.bl false,rfl,?_⟩;dsimp only;rw[if_neg az];walk_at "go";refine⟨D.bl false,rfl,?_⟩;dsimp only;rw[if_neg az];walk_at "go";exact⟨by simp,_,zS _ _,by omega,q⟩
end Wc
namespace Wc
open PySem L2 PyProof.Rows
end Wc
open PySem L2 PyProof.Rows Wc
local macro_rules | `(tactic| walk_at "px")=>`(tactic| (repeat(first | walk_at "b" | simp only[tj,AF,vA,rA,sP,xm,sU,OV.val,K6])))
namespace Wc
open PySem L2 PyProof.Rows
theorem Qe{α:Type}{wi:kQ}{m:List (Option Nat)}{g:ij}{te:TD}{ρ:Ev}{Q:R->Prop}(L:List α)(φ:α->D)(f:α->List D)(hw:∀Q':List D->Prop,Q' (L.map φ)->wi ρ Q')(hl:L.length<=sizeLine)
  (h:∀x∈L,∀(K1:List D->Prop),K1 (f x)->g (φ x) (fY m ρ) fun dR=>te dR fun r=>match r with | .ow es=>K1 es | _=>False) (q:Q (.ov (.ll (L.map f)))):xy wi m g lF te ρ Q:=by
 unfold xy;refine hw _ ⟨fun i acc=>acc=(L.take i).map f,by simp,fun i d acc hd ha=>?_,fun acc ha=>?_⟩
 ·subst ha;rw[aR] at hd;cases hx:L[i]? with
  | none=>rw[hx] at hd;cases hd
  | some x=>
   rw[hx] at hd;cases hd;have eR:i<L.length:=(aS.mp hx).1;have:=h x (List.mem_of_getElem? hx) (fun es=>((L.take i).map f).length<sizeLine/\(L.take i).map f++[es]=(L.take (i+1)).map f) ⟨by simp;omega,by rw[List.take_add_one,hx];simp⟩;exact this
 ·subst ha;simpa using q
def vn(c c1:bN)(s0 s1:Str)(d:List Flt):Prop:=(c1=c/\d=[])\/∃w,GG c c1 s0 s1 w/\d=[.bZ w]
def vm(c c1:bN)(s2 s3:Str)(d:List Flt):Prop:=(c1=c/\d=[])\/(Ih c c1 s2 s3/\d=[.jG s2])
def vk(c c1:bN)(ns:List Str)(s4 s5:Str)(d:List Flt):Prop:=(c1=c/\d=[])\/(HF c c1 s4 s5/\d=[.jG s5])\/∃k,ia c c1 ns k/\d=[.qj k]
def xp(c c1:bN)(d:List Flt):Prop:=(c1=c/\d=[])\/∃p,Jd c c1 p/\d=[.keep p]
theorem uz{c c1:bN}{s0 s1:Str}{d:List Flt}(h:vn c c1 s0 s1 d)(hL:c.left.length<=20)(hR:c.right.length<=20):c1.top=c.top/\c1.bw=c.bw/\c1.wide=c.wide/\c1.bH=c.bH/\c1.keeps=c.keeps/\c1.left.length<=21/\c1.right.length<=21/\d.length<=1:=by
 rcases h with⟨rfl,rfl⟩ | ⟨w,⟨h1,h2,h3,h4,h5,h6⟩,rfl⟩
 ·exact⟨rfl,rfl,rfl,rfl,rfl,by omega,by omega,by simp⟩
 ·refine⟨h1,h2,h3,h4,h5,?_,?_,by simp⟩
  ·rcases h6 with⟨_,⟨p,_⟩ | ⟨e,_⟩⟩ | ⟨_,p,_⟩
   ·rw[p.length_eq,aj];simp;omega
   ·rw[e];omega
   ·rw[p.length_eq,aj];simp;omega
  ·rcases h6 with⟨_,⟨_,e⟩ | ⟨_,p⟩⟩ | ⟨_,_,p⟩
   ·rw[e];omega
   ·rw[p.length_eq,aj];simp;omega
   ·rw[p.length_eq,aj];simp;omega
theorem o3{c c1:bN}{s2 s3:Str}{d:List Flt}(h:vm c c1 s2 s3 d):c1.top=c.top/\c1.bw=c.bw/\c1.bH=c.bH/\c1.keeps=c.keeps/\c1.left=c.left/\c1.right=c.right/\d.length<=1:=by
 rcases h with⟨rfl,rfl⟩ | ⟨⟨wd,k,rfl,_⟩,rfl⟩
 ·exact⟨rfl,rfl,rfl,rfl,rfl,rfl,by simp⟩
 ·exact⟨rfl,rfl,rfl,rfl,rfl,rfl,by simp⟩
theorem A3{c c1:bN}{ns:List Str}{s4 s5:Str}{d:List Flt}(h:vk c c1 ns s4 s5 d):c1.top=c.top/\c1.keeps=c.keeps/\d.length<=1:=by
 rcases h with⟨rfl,rfl⟩ | ⟨⟨k1,k2,rfl | rfl⟩,rfl⟩ | ⟨k,b,rfl⟩
 ·exact⟨rfl,rfl,by simp⟩
 ·exact⟨rfl,rfl,by simp⟩
 ·exact⟨rfl,rfl,by simp⟩
 ·rw[b.same];exact⟨rfl,rfl,by simp⟩
theorem P0(l:List (Option Str)):(l.filter fun x=>x.isSome).map dO=(l.filterMap id).map D.str:=by
 induction l with
 | nil=>rfl
 | cons a l ih=>
  cases a with
  | none=>simpa using ih
  | some x=>
   rw[List.filter_cons,if_pos (show(some x).isSome=true from rfl),au,ih];rfl
def ya:eX:=fun ds Q=>∃(c:bN) (s0 s1 s2 s3 s4 s5:Str) (b m:Int),ds=[.lst c.parts,dS [s0,s1,s2,s3,s4,s5],.int b,.int m]/\l9 c/\1<=c.top.length/\c.left.length<=20/\c.right.length<=20/\c.wide.length<=20/\c.bH.length<=50/\(c.bH.map (·.1)).Nodup/\c.keeps.length<=60/\
 ∀c1 c2 c3 c4 d1 d2 d3 d4,vn c c1 s0 s1 d1->vm c1 c2 s2 s3 d2->vk c2 c3 ((c.top++c.bw).filterMap id) s4 s5 d3->xp c3 c4 d4->Q (.fz (.tup [.lst c4.parts,.lst ((d1++d2++d3++d4).map Flt.d)]))
def DD:TX:=(b8 (mH 4 (xy (iS (bz 0)) [none] (dy 0) lF (ek zev (bF (bz 0) bQ))))
 (b8 (df 5 (hJ (iS (bE dA (bE cM (bz 0) (dC (.int 0))) (bE cM (bz 0) (dC (.int 1))))) [none] (dy 0) (cL (bE (pq true) (bz 0) (dC .non))) (bz 0)))
 (b8 (mH 6 (fX bQ))
 (b8 (eO (cL (bE oEq (bE (oI (fun _ j=>0<j) fun i j=>.int (i%j)) (bz 2) (dC (.int 2))) (dC (.int 1)))) (sU 6 4 2 yf (bF (bz 1) (bF (bz 3) bQ))) fb)
 (b8 (eO (cL (bE oEq (bE (oI (fun _ j=>0<j) fun i j=>.int (i%j)) (bE (oI fc fun i j=>.int (i/j)) (bz 2) (dC (.int 2))) (dC (.int 2))) (dC (.int 1)))) (sU 6 4 2 ye (bF (bz 1) (bF (bE (oI fc fun i j=>.int (i/j)) (bz 3) (dC (.int 16))) bQ))) fb)
 (b8 (eO (cL (bE oEq (bE (oI (fun _ j=>0<j) fun i j=>.int (i%j)) (bE (oI fc fun i j=>.int (i/j)) (bz 2) (dC (.int 4))) (dC (.int 2))) (dC (.int 1)))) (sU 6 4 2 yt (bF (bz 1) (bF (bE (oI fc fun i j=>.int (i/j)) (bz 3) (dC (.int 32))) bQ))) (eO (qt (cL (bE oEq (bE (oI (fun _ j=>0<j) fun i j=>.int (i%j)) (bE (oI fc fun i j=>.int (i/j)) (bz 2) (dC (.int 8))) (dC (.int 2))) (dC (.int 1)))) (cL (bE (gM fun i j=>.bl (decide (j<i))) (ek jY (bF (bz 5) bQ)) (dC (.int 0))))) (sU 6 4 2 yp (bF (bz 5) (bF (bE (oI fc fun i j=>.int (i/j)) (bz 3) (dC (.int 3))) bQ))) fb))
 (b8 (eO (cL (bE oEq (bE (oI (fun _ j=>0<j) fun i j=>.int (i%j)) (bE (oI fc fun i j=>.int (i/j)) (bz 2) (dC (.int 16))) (dC (.int 2))) (dC (.int 1)))) (sU 6 4 1 yr (bF (bz 3) bQ)) fb)
 (qZ 6 (qZ 4 (ft (gq (bF (bz 4) (bF (bz 6) bQ)))))))))))))
theorem Sz:jw 4 ya DD ["_law_lists","_law_words","_law_bits","_law_mix_here","_law_lots","_law_names","_law_due"]:=by
 intro ds Qr hl h;obtain⟨c,s0,s1,s2,s3,s4,s5,b,m,rfl,s,hW,hL,hR,hD,hB,tP,hK,q⟩:=h;show DD _ [.fz (.lst c.parts),.fz (dS [s0,s1,s2,s3,s4,s5]),.fz (.int b),.fz (.int m),.un,.un,.un];unfold DD;have big:=ie;walk_at "px";refine Qe (j0 c) D.lst id (fun Q' h=>?_) (by rw[ie];show 7<=16777216;decide) (fun x hx K1 k=>?_) ?_
 ·walk_at "px";exact h
 ·walk_at "px";exact k
 rw[List.map_id];walk_at "go";refine rK (c.top++c.bw) dO dO (fun x=>x.isSome) (fun Q' h=>?_) (by rw[aj,s.b];have:=s.w;omega) (fun x hx K1 K0 k1 k0=>?_) ?_
 ·walk_at "px";refine⟨_,rfl,_,rfl,?_⟩;unfold dP;walk_at "px";refine⟨by rw[ae,ae,s.b];have:=s.w;omega,?_⟩;rw[<-aE];exact h
 ·walk_at "px";cases x with
  | none=>exact k0 rfl
  | some x=>exact k1 rfl
 walk_at "go";refine⟨by omega,?_⟩;rw[P0];have EL:((c.top++c.bw).filterMap id).length<=100:=aT (List.length_filterMap_le _ _) (by rw[aj,s.b];have:=s.w;omega);generalize (c.top++c.bw).filterMap id=ns at EL q ⊢;walk_at "go";generalize Ve:mM (b8 _ _) _=K1;have r1:∀c1 d1,vn c c1 s0 s1 d1->K1 [.fz (.lst c.parts),.fz (dS [s0,s1,s2,s3,s4,s5]),.fz (.int b),.fz (.int m),.ov (.ll (j0 c1)),.fz (.lst (ns.map D.str)),.ow (d1.map Flt.d)]:=fun c1 d1 h1=>by
  subst Ve;obtain⟨t1,b1,w1,e1,k1,l1,l2,V5⟩:=uz h1 hL hR;walk_at "go";generalize Vd:mM (b8 _ _) _=K2;have r2:∀c2 d2,vm c1 c2 s2 s3 d2->K2 [.fz (.lst c.parts),.fz (dS [s0,s1,s2,s3,s4,s5]),.fz (.int b),.fz (.int m),.ov (.ll (j0 c2)),.fz (.lst (ns.map D.str)),.ow ((d1++d2).map Flt.d)]:=fun c2 d2 h2=>by
   subst Vd;obtain⟨t2,b2,e2,k2,l3,l4,V4⟩:=o3 h2;walk_at "go";generalize Vc:mM (b8 _ _) _=K3;have r3:∀c3 d3,vk c2 c3 ns s4 s5 d3->K3 [.fz (.lst c.parts),.fz (dS [s0,s1,s2,s3,s4,s5]),.fz (.int b),.fz (.int m),.ov (.ll (j0 c3)),.fz (.lst (ns.map D.str)),.ow ((d1++d2++d3).map Flt.d)]:=fun c3 d3 h3=>by
    subst Vc;obtain⟨t3,k3,V3⟩:=A3 h3;walk_at "go";generalize Vb:mM (qZ _ _) _=K4;have r4:∀c4 d4,xp c3 c4 d4->K4 [.fz (.lst c.parts),.fz (dS [s0,s1,s2,s3,s4,s5]),.fz (.int b),.fz (.int m),.ov (.ll (j0 c4)),.fz (.lst (ns.map D.str)),.ow ((d1++d2++d3++d4).map Flt.d)]:=fun c4 d4 h4=>by
     subst Vb;walk_at "go";exact⟨by omega,q c1 c2 c3 c4 d1 d2 d3 d4 h1 h2 h3 h4⟩
    split
    ·exact⟨c3,m,rfl,rfl,by rw[t3,t2,t1];exact hW,by rw[t3,t2,t1];exact s.w,by rw[k3,k2,k1];exact hK,fun c' p h=>⟨by simp only[ae,aj];omega,by have:=r4 c' [.keep p] (.inr ⟨p,h,rfl⟩);rwa [aE] at this⟩⟩
    ·have:=r4 c3 [] (.inl ⟨rfl,rfl⟩);rwa [aM] at this
   split
   ·exact⟨c2,s0,s1,s2,s3,s4,s5,[],_,rfl,rfl,by rw[e2,e1];omega,fun c' h=>⟨by simp only[ae,aj];omega,by have:=r3 c' [.jG s5] (.inr (.inl ⟨h,rfl⟩));rwa [aE] at this⟩⟩
   ·have D2:=r3 c2 [] (.inl ⟨rfl,rfl⟩);rw[aM] at D2;split
    ·split
     ·rename_i hp;exact⟨c2,ns,_,rfl,rfl,(fun z=>by rw[z] at hp;simp at hp),EL,⟨by rw[t2,t1];exact s.w,by rw[b2,b1,t2,t1];exact s.b,by rw[l3];omega,by rw[l4];omega⟩,by rw[t2,t1];exact hW,by rw[e2,e1];exact hB,by rw[e2,e1];exact tP,fun c' k h=>⟨by simp only[ae,aj];omega,by have:=r3 c' [.qj k] (.inr (.inr ⟨k,h,rfl⟩));rwa [aE] at this⟩⟩
     ·exact D2
    ·exact D2
  split
  ·exact⟨c1,s0,s1,s2,s3,[s4,s5],_,rfl,rfl,by rw[w1];exact hD,fun c' h=>⟨by rw[ae];omega,by have:=r2 c' [.jG s2] (.inr ⟨h,rfl⟩);rwa [aE] at this⟩⟩
  ·have:=r2 c1 [] (.inl ⟨rfl,rfl⟩);rwa [aM] at this
 split
 ·exact⟨c,s0,s1,[s2,s3,s4,s5],m,rfl,rfl,hL,hR,fun c' d h=>⟨by first | omega | (simp;omega),r1 c' [.bZ d] (.inr ⟨d,h,rfl⟩)⟩⟩
 ·exact r1 c [] (.inl ⟨rfl,rfl⟩)
end Wc
namespace Wc
open PySem L2 PyProof.Rows
theorem Cd{l:List Str}(h:l.Pairwise hU):l.Nodup:=List.Pairwise.imp (S:=(·≠·)) (fun{a b} h e=>by
 rw[e] at h;unfold hU at h;rw[xD] at h;cases h) h
theorem Ho{l:List Str}(nd:l.Nodup)(w:Str):l.count w=if w∈l then 1 else 0:=by
 by_cases h:w∈l
 ·rw[if_pos h];have h1:=(List.nodup_iff_count.mp nd) w;have h2:=List.count_pos_iff.mpr h;omega
 ·rw[if_neg h,aZ.mpr h]
theorem N6{c:bN}(w:Str):∀i,((List.range i).flatMap (ny c w)).length=(c.top.take i).count (some w)+(c.bw.take i).count (some w):=by
 intro i;induction i with
 | zero=>simp
 | succ i ih=>
  rw[List.range_succ,List.flatMap_append,aj,ih,List.take_add_one,List.take_add_one,List.count_append,List.count_append];simp only[List.flatMap_cons,List.flatMap_nil,aM];have a1:∀x:Option (Option Str),(x.toList).count (some w)=if x=some (some w) then 1 else 0:=fun x=>by
   cases x with
   | none=>simp
   | some y=>by_cases h:y=some w<;>simp[h,List.count_cons]
  rw[a1,a1];unfold ny;split<;>split<;>simp<;>omega
theorem KU{c:bN}(w:Str)(hb:c.bw.length=c.top.length):(mO c w).length=(if w∈c.left then 1 else 0)+(c.top.count (some w)+c.bw.count (some w))+if w∈c.right then 1 else 0:=by
 unfold mO;rw[aj,aj,N6 w,List.take_length];have e:c.bw.take c.top.length=c.bw:=by rw[<-hb,List.take_length]
 rw[e];split<;>split<;>simp<;>omega
theorem N0{c:bN}{w:Str}(h:0<fS c.top c.bw c.left c.right w):i3 c w:=by
 unfold fS at h;by_cases h1:some w∈c.top
 ·exact .inl h1
 ·by_cases h2:some w∈c.bw
  ·exact .inr (.inl h2)
  ·by_cases h3:w∈c.left
   ·exact .inr (.inr (.inl h3))
   ·by_cases h4:w∈c.right
    ·exact .inr (.inr (.inr h4))
    ·rw[aZ.mpr h1,aZ.mpr h2,aZ.mpr h3,aZ.mpr h4] at h;omega
theorem Ie(c:bN)(w:Str)(k:Int)(h:k∈places c.top c.bw c.left c.right w):k∈pl c w:=by
 unfold places at h;unfold pl;simp only[av] at h ⊢;rcases h with(h | h) | h
 ·exact .inl (.inr h)
 ·exact .inl (.inl h)
 ·exact .inr h
theorem LG{c:bN}{w:Str}{k:Int}(h:k∈pl c w):i3 c w:=by
 unfold pl at h;rcases av.mp h with h | h
 ·rcases av.mp h with h | h
  ·split at h
   ·rename_i h1;exact .inr (.inr (.inl h1))
   ·cases h
  ·obtain⟨n,hn,_⟩:=aN.mp h;have:=(bf.mp hn).2;simp only[Bool.or_eq_true,beq_iff_eq] at this;rcases this with h | h
   ·exact .inl (List.mem_of_getElem? h)
   ·exact .inr (.inl (List.mem_of_getElem? h))
 ·split at h
  ·rename_i h1;exact .inr (.inr (.inr h1))
  ·cases h
theorem Hn{ws:List Str}{most:Nat}{c:bN}(g:gj ws most c)(hm:most<=40){p:Int×Str}(hp:p∈c.bH):i3 c p.2/\cZ c p=true:=by
 obtain⟨n,hn,o5,_,⟨m,M,⟨i1,i2⟩,⟨j1,j2⟩,Be,Bd⟩,rY⟩:=g.be.at_ p hp;have hw:=g.w2;have m1:m∈pl c p.2:=by
  refine Ie c _ _ ?_;rcases av.mp i1 with h | h
  ·exact h
  ·simp at h;omega
 have M1:M∈pl c p.2:=by
  refine Ie c _ _ ?_;rcases av.mp j1 with h | h
  ·exact h
  ·simp at h;omega
 refine⟨LG m1,?_⟩;unfold cZ vf;have up:=Ge c p.2;generalize pl c p.2=l at m1 M1 up;cases l with
 | nil=>cases m1
 | cons a r=>
  have l1:=CH up M M1;have l0:a<=m:=by
   rcases ah.mp m1 with h | h
   ·omega
   ·have:=(aW.mp up).1 m h;omega
  simp only[oM];rw[if_neg (by omega)];dsimp only;rw[decide_eq_true (show a<p.1 by omega),decide_eq_true (show p.1<(a::r).getLast (by simp) by omega),hn,Int.toNat_natCast];rcases rY with⟨h1,h2⟩ | h | h
  ·simp[h1,h2]
  ·simp[h]
  ·simp[h]
theorem LF:∀{a b:List Nat},Spec.ltCps a b=true->a<b:=by
 intro a;induction a with
 | nil=>
  intro b h;cases b with
  | nil=>simp[Spec.ltCps] at h
  | cons b bs=>exact List.Lex.nil
 | cons a as ih=>
  intro b h;cases b with
  | nil=>simp[Spec.ltCps] at h
  | cons b bs=>
   unfold Spec.ltCps at h;by_cases h1:a<b
   ·exact List.Lex.rel h1
   ·by_cases h2:a=b
    ·subst h2;simp at h;exact List.Lex.cons (ih h)
    ·simp[h1,h2] at h
theorem CG{α:Type}{R:α->α->Prop}{p:α->Bool}{z:α}{l:List α}(h:l.Pairwise R)(hz:z∈l)(hp:p z=true):∃y∈l,l.find? p=some y/\p y=true/\(z=y\/R y z):=by
 induction l with
 | nil=>cases hz
 | cons a l ih=>
  rw[List.find?_cons];cases e:p a with
  | true=>
   refine⟨a,by simp,rfl,e,?_⟩;rcases ah.mp hz with rfl | hz
   ·exact .inl rfl
   ·exact .inr ((aW.mp h).1 z hz)
  | false=>
   rcases ah.mp hz with rfl | hz
   ·rw[hp] at e;cases e
   ·obtain⟨y,hy,h1,h2,h3⟩:=ih (aW.mp h).2 hz;exact⟨y,by simp[hy],h1,h2,h3⟩
theorem Lv{ws:List Str}{most:Nat}{c:bN}(g:gj ws most c){w:Str}(h:w∉ws):c.top.count (some w)=0/\c.bw.count (some w)=0/\w∉c.left/\w∉c.right:=
 ⟨aZ.mpr fun z=>h (g.pt w z),aZ.mpr fun z=>h (g.pb w z),fun z=>h (g.lw w z),fun z=>h (g.rw_ w z)⟩
structure More (ws:List Str) (c c':bN) (A B:List Str):Prop where
 t:c'.top=c.top
 b:c'.bw=c.bw
 l:∀x,x∈c'.left↔x∈c.left\/x∈A
 r:∀x,x∈c'.right↔x∈c.right\/x∈B
 hA:∀x∈A,x∉ws/\x∉B
 hB:∀x∈B,x∉ws
theorem More.bZ{ws:List Str}{most:Nat}{c c':bN}{A B:List Str}(m:More ws c c' A B)(g:gj ws most c)(x:Str):oP c' x=true↔x∈A\/x∈B:=by
 unfold oP;rw[decide_eq_true_iff,KU x (by rw[m.b,m.t];exact g.bl),m.t,m.b];by_cases h:x∈ws
 ·have nA:x∉A:=fun z=>(m.hA x z).1 h
  have nB:x∉B:=fun z=>m.hB x z h
  have e:=g.cnt x;unfold fS at e;rw[Ho (Cd g.lo),Ho (Cd g.ro)] at e;simp only[m.l,m.r,nA,nB,or_false];constructor
  ·intro z;omega
  ·intro z;cases z
 ·obtain⟨h1,h2,h3,h4⟩:=Lv g h;simp only[m.l,m.r,h1,h2,h3,h4,false_or];by_cases a:x∈A
  ·have:=(m.hA x a).2;simp[a,this]
  ·by_cases b':x∈B<;>simp[a,b']
theorem More.mem{ws:List Str}{most:Nat}{c c':bN}{A B:List Str}(m:More ws c c' A B)(g:gj ws most c)(x:Str)(h:i3 c' x):x∈ws++A++B:=by
 unfold i3 at h;rw[m.t,m.b,m.l,m.r] at h;rcases h with h | h | (h | h) | h | h
 ·simp[g.pt x h]
 ·simp[g.pb x h]
 ·simp[g.lw x h]
 ·simp[h]
 ·simp[g.rw_ x h]
 ·simp[h]
theorem More.first{ws:List Str}{most:Nat}{c c':bN}{A B:List Str}(m:More ws c c' A B)(g:gj ws most c){l:List Str}(N:lj c' l){d:Str}(hd:d∈A\/d∈B)(hm:∀x,x∈A\/x∈B->x=d\/hU d x):l.find? (oP c')=some d:=by
 have dl:d∈l:=(N.mem d).mpr (by
  rcases hd with h | h
  ·exact .inr (.inr (.inl ((m.l d).mpr (.inr h))))
  ·exact .inr (.inr (.inr ((m.r d).mpr (.inr h)))))
 obtain⟨y,hy,e,hp,hz⟩:=CG (AE N.yJ N.nd) dl ((m.bZ g d).mpr hd);rw[e];rcases hm y ((m.bZ g y).mp hp) with h | h
 ·rw[h]
 ·rcases hz with z | z
  ·rw[z]
  ·have:=Il h z;unfold hU at this;rw[xD] at this;cases this
theorem More.none{ws:List Str}{most:Nat}{c c':bN}(m:More ws c c' [] [])(g:gj ws most c)(l:List Str):l.find? (oP c')=none:=by
 refine List.find?_eq_none.mpr fun x _ h=>?_
 rcases(m.bZ g x).mp h with z | z<;>cases z
theorem zM{l l':List Str}{w:Str}(p:l'.Perm (l++[w]))(x:Str):x∈l'↔x∈l\/x∈[w]:=by rw[p.mem_iff,av]
structure bL (c c':bN):Prop where
 t:c'.top=c.top
 b:c'.bw=c.bw
 l:c'.left=c.left
 r:c'.right=c.right
theorem bL.cZ{c c':bN}(s:bL c c')(p:Int×Str):Wc.cZ c' p=Wc.cZ c p:=by unfold Wc.cZ vf pl;rw[s.t,s.b,s.l,s.r]
theorem bL.more{ws:List Str}{c c1 c':bN}{A B:List Str}(s:bL c1 c')(m:More ws c c1 A B):More ws c c' A B:=⟨s.t.trans m.t,s.b.trans m.b,by rw[s.l];exact m.l,by rw[s.r];exact m.r,m.hA,m.hB⟩
theorem bL.trans{a b c:bN}(s:bL a b)(t:bL b c):bL a c:=⟨t.t.trans s.t,t.b.trans s.b,t.l.trans s.l,t.r.trans s.r⟩
theorem KS(ws:List Str)(c:bN):More ws c c [] []:=⟨rfl,rfl,fun x=>by simp,fun x=>by simp,fun x h=>absurd h (by simp),fun x h=>absurd h (by simp)⟩
theorem Gd{ws:List Str}{c c1:bN}{s0 s1:Str}{d:List Flt}(h:vn c c1 s0 s1 d)(h0:s0∉ws)(h1:s1∉ws)(lt:hU s0 s1):∃A B,More ws c c1 A B/\A.length<=1/\B.length<=1/\((A=[]/\B=[]/\c1=c/\d=[])\/∃w,d=[.bZ w]/\(w∈A\/w∈B)/\∀x,x∈A\/x∈B->x=w\/hU w x):=by
 have ne:s1≠s0:=fun e=>by
  rw[e] at lt;unfold hU at lt;rw[xD] at lt;cases lt
 have o1:∀{w x:Str},x∈[w]->x=w:=fun h=>by simpa using h
 have n0:∀(l:List Str) (x:Str),x∈l↔x∈l\/x∈([]:List Str):=fun l x=>by simp
 have nn:∀{x:Str},x∉([]:List Str):=fun h=>by cases h
 rcases h with⟨rfl,rfl⟩ | ⟨w,⟨ht,hb,_,_,_,h6⟩,rfl⟩
 ·exact⟨[],[],KS ws _,by simp,by simp,.inl ⟨rfl,rfl,rfl,rfl⟩⟩
 ·rcases h6 with⟨hw,h6⟩ | ⟨rfl,pL,pR⟩
  ·have JV:w∉ws:=by rcases hw with rfl | rfl<;>assumption
   rcases h6 with⟨p,e⟩ | ⟨e,p⟩
   ·exact⟨[w],[],⟨ht,hb,zM p,by rw[e];exact n0 _,fun x hx=>⟨by rw[o1 hx];exact JV,nn⟩,fun x hx=>absurd hx nn⟩,by simp,by simp,.inr ⟨w,rfl,.inl (by simp),fun x hx=>.inl (o1 (hx.resolve_right nn))⟩⟩
   ·exact⟨[],[w],⟨ht,hb,by rw[e];exact n0 _,zM p,fun x hx=>absurd hx nn,fun x hx=>by rw[o1 hx];exact JV⟩,by simp,by simp,.inr ⟨w,rfl,.inr (by simp),fun x hx=>.inl (o1 (hx.resolve_left nn))⟩⟩
  ·refine⟨[s1],[w],⟨ht,hb,zM pL,zM pR,fun x hx=>⟨by rw[o1 hx];exact h1,fun z=>ne ((o1 hx).symm.trans (o1 z))⟩,fun x hx=>by rw[o1 hx];exact h0⟩,by simp,by simp,.inr ⟨w,rfl,.inr (by simp),fun x hx=>?_⟩⟩;rcases hx with z | z
   ·rw[o1 z];exact .inr lt
   ·exact .inl (o1 z)
theorem Gb{c c1:bN}{s2 s3:Str}{d:List Flt}(h:vm c c1 s2 s3 d):bL c c1:=by
 obtain⟨h1,h2,_,_,h5,h6,_⟩:=o3 h;exact⟨h1,h2,h5,h6⟩
theorem Ga{c c1:bN}{ns:List Str}{s4 s5:Str}{d:List Flt}(h:vk c c1 ns s4 s5 d):bL c c1/\c1.wide=c.wide/\c1.keeps=c.keeps/\c1.bH.length<=c.bH.length+2:=by
 rcases h with⟨rfl,rfl⟩ | ⟨⟨k1,k2,rfl | rfl⟩,rfl⟩ | ⟨k,b,rfl⟩
 ·exact⟨⟨rfl,rfl,rfl,rfl⟩,rfl,rfl,by omega⟩
 ·exact⟨⟨rfl,rfl,rfl,rfl⟩,rfl,rfl,by simp⟩
 ·exact⟨⟨rfl,rfl,rfl,rfl⟩,rfl,rfl,by simp⟩
 ·obtain⟨new,p,hn,_⟩:=b.ex;have:=p.length_eq;rw[aj] at this;rw[b.same];exact⟨⟨rfl,rfl,rfl,rfl⟩,rfl,rfl,by show c1.bH.length<=_;omega⟩
theorem F9{c c1:bN}{d:List Flt}(h:xp c c1 d):bL c c1/\c1.wide=c.wide/\c1.bH=c.bH:=by
 rcases h with⟨rfl,rfl⟩ | ⟨p,⟨k,t,_,_,_,rfl⟩,rfl⟩
 ·exact⟨⟨rfl,rfl,rfl,rfl⟩,rfl,rfl⟩
 ·exact⟨⟨rfl,rfl,rfl,rfl⟩,rfl,rfl⟩
end Wc
namespace Wc
open PySem L2 PyProof.Rows
theorem Qd{l:List Str}{wd w0:List (Str×Int)}{s2 s3:Str}{k:Int}(h0:∀w∈w0,w.1∈l)(h2:s2∉l)(lt:hU s2 s3)(hp:wd.Perm (w0++[(s2,k)])\/wd.Perm (w0++[(s2,k),(s3,k)]))(up:wd.Pairwise fun x y=>Ts.jM (eW y) (eW x)=false):(wd.map (·.1)).find? (fun w=>decide (w∉l))=some s2:=by
 rw[List.find?_map];have hm:(s2,k)∈wd/\∀y∈wd,y∈w0\/y=(s2,k)\/y=(s3,k):=by
  rcases hp with p | p
  ·refine⟨p.mem_iff.mpr (by simp),fun y hy=>?_⟩;have:=p.mem_iff.mp hy;simp only[av,ah,aK,or_false] at this;exact this.imp id .inl
  ·refine⟨p.mem_iff.mpr (by simp),fun y hy=>?_⟩;have:=p.mem_iff.mp hy;simpa only[av,ah,aK,or_false] using this
 obtain⟨y,hy,e,Bh,hz⟩:=CG (p:=(fun w=>decide (w∉l))∘(·.1)) up hm.1 (by simp[h2]);rw[e];rcases hm.2 y hy with h | h | h
 ·simp[h0 y h] at Bh
 ·rw[h];rfl
 ·rw[h] at hz ⊢;have ne:s2≠s3:=fun z=>by
   rw[z] at lt;unfold hU at lt;rw[xD] at lt;cases lt
  rcases hz with z | z
  ·rw[<-z];rfl
  ·have:Ts.jM (eW (s2,k)) (eW (s3,k))=true:=by
    unfold eW;rw[Ts.jM,if_neg (by intro z;exact ne (Sum.inr.inj z))];exact decide_eq_true (LF lt)
   rw[this] at z;cases z
theorem Qc{c:bN}{b:List (Int×Str)}{ns:List Str}{k:Int}(hg:∀p∈c.bH,cZ c p=true)(h:ia c { c with bH:=b } ns k):∃p,b.find? (fun p=>!cZ c p)=some p/\p.1=k:=by
 obtain⟨⟨new,hp,_,⟨p,y7,o4⟩,hn,_⟩,up,_⟩:=h;obtain⟨y,hy,e,Bh,hz⟩:=CG (p:=fun p=>!cZ c p) up (hp.mem_iff.mpr (aV _ y7)) (by rw[(hn p y7).2.1.1];rfl);refine⟨y,e,?_⟩;rcases av.mp (hp.mem_iff.mp hy) with h | h
 ·rw[hg y h] at Bh;cases Bh
 ·have:=(hn y h).1;rcases hz with z | z
  ·rw[<-z];exact o4
  ·omega
theorem Af{α:Type}{p:α->Bool}{l:List α}(h:∀y∈l,p y=false):l.find? p=none:=List.find?_eq_none.mpr fun x hx=>by rw[h x hx];decide
theorem Ic{ws:List Str}{most:Nat}{c c1 c2 c3 c4:bN}{s0 s1 s2 s3 s4 s5:Str}{d1 d2 d3 d4:List Flt}(g:gj ws most c)(hm:most<=40)(hs:∀x∈[s0,s1,s2,s3,s4,s5],x∉ws)(up:[s0,s1,s2,s3,s4,s5].Pairwise hU)(h1:vn c c1 s0 s1 d1)(h2:vm c1 c2 s2 s3 d2)(h3:vk c2 c3 ((c.top++c.bw).filterMap id) s4 s5 d3)(h4:xp c3 c4 d4){l:List Str}(N:lj c4 l) :
  sO c4 l=((d1++d2++d3++d4).head?).map Flt.x:=by
 have Ei:hU s0 s1:=(aW.mp up).1 s1 (by simp);have Ue:hU s2 s3:=(aW.mp (aW.mp (aW.mp up).2).2).1 s3 (by simp);have n2:s2∉ws:=hs s2 (by simp);have n5:s5∉ws:=hs s5 (by simp);obtain⟨A,B,m1,_,_,hd⟩:=Gd h1 (hs s0 (by simp)) (hs s1 (by simp)) Ei;have S2:=Gb h2;obtain⟨S3,FC,Vv,_⟩:=Ga h3;obtain⟨S4,FA,zD⟩:=F9 h4;have S:=(S2.trans S3).trans S4;have m4:=S.more m1;unfold sO;rcases hd with⟨rfl,rfl,rfl,rfl⟩ | ⟨w,rfl,hw,hx⟩
 rotate_left
 ·rw[m4.first g N hw hx];rfl
 rw[m4.none g l];dsimp only;unfold B8 rp;have inl:∀{w:Str},i3 c1 w->w∈l:=fun{w} h=>(N.mem w).mpr (by unfold i3 at h ⊢;rw[S.t,S.b,S.l,S.r];exact h)
 have out:∀{w:Str},w∉ws->w∉l:=fun{w} h z=>h (by have:=m4.mem g w ((N.mem w).mp z);simpa using this)
 have wi:∀w∈c1.wide,w.1∈l:=fun p hp=>inl (N0 (Nat.lt_trans Nat.zero_lt_one (g.ww p hp).2.2))
 have bi:∀w∈c1.bH,w.2∈l:=fun p hp=>inl (Hn g hm hp).1
 rw[FA,zD,FC,List.find?_append];rcases h2 with⟨rfl,rfl⟩ | ⟨⟨wd,k,rfl,hp,AZ⟩,rfl⟩
 rotate_left
 ·rw[Qd wi (out n2) Ue hp AZ];rfl
 have w0:(c2.wide.map (·.1)).find? (fun w=>decide (w∉l))=none:=Af fun y hy=>by
  obtain⟨p,hp,rfl⟩:=aN.mp hy;simp[wi p hp]
 have b0:(c2.bH.map (·.2)).find? (fun w=>decide (w∉l))=none:=Af fun y hy=>by
  obtain⟨p,hp,rfl⟩:=aN.mp hy;simp[bi p hp]
 have hg:∀p∈c2.bH,cZ c2 p=true:=fun p hp=>(Hn g hm hp).2
 have fB:(fun p=>!cZ c4 p)=fun p=>!cZ c2 p:=funext fun p=>by rw[S.cZ]
 have kg:∀k∈c2.keeps,(!lO c2.top.length k)=false:=fun k hk=>by
  obtain⟨_,a,b,d,e⟩:=g.ke.2 k hk;simp[lO,a,b,d,e]
 rw[w0,Option.none_or];rcases h3 with⟨rfl,rfl⟩ | ⟨⟨k1,k2,hb⟩,rfl⟩ | ⟨k,hb,rfl⟩
 ·rw[b0];dsimp only;unfold z8;rw[fB,zD,Af fun y hy=>by rw[hg y hy];rfl];dsimp only;unfold B9;rw[S.t];rcases h4 with⟨rfl,rfl⟩ | ⟨p,⟨k,t,hp,hk,_,rfl⟩,rfl⟩
  ·rw[List.findIdx?_eq_none_iff.mpr kg];rfl
  ·have lp:(c3.keeps.take p).length=p:=by rw[aP];omega
   rw[Ca (i:=p) (x:=k) (by show(c3.keeps.take p++k::t)[p]?=_;rw[List.getElem?_append_right (by omega),lp];simp) (by rw[hk];rfl) fun y hy=>kg y (by
    change y∈(c3.keeps.take p++k::t).take p at hy;rw[List.take_append_of_le_length (by omega),List.take_of_length_le (by omega)] at hy;exact List.mem_of_mem_take hy)]
   rfl
 ·have e5:(c3.bH.map (·.2)).find? (fun w=>decide (w∉l))=some s5:=by
   rcases hb with rfl | rfl
   ·rw[aE,List.find?_append,b0];simp[out n5]
   ·rw[aE,List.find?_append,b0];simp[out n5]
  rw[e5];rfl
 ·obtain⟨b,hc⟩:∃b,c3={ c2 with bH:=b }:=⟨_,hb.same⟩
  subst hc;have nb:(b.map (·.2)).find? (fun w=>decide (w∉l))=none:=Af fun y hy=>by
   obtain⟨p,hp,rfl⟩:=aN.mp hy;obtain⟨new,pm,_,_,hn,_⟩:=hb.ex;rcases av.mp (pm.mem_iff.mp hp) with h | h
   ·simp[bi p h]
   ·have:=(hn p h).2.1.2;rw[List.mem_filterMap] at this;obtain⟨x,hx,e⟩:=this;have e:x=some p.2:=e;rw[e] at hx
    have:p.2∈l:=inl (by
     rcases av.mp hx with z | z
     ·exact .inl z
     ·exact .inr (.inl z))
    simp[this]
  show(match (b.map (·.2)).find? (fun w=>decide (w∉l)) with | some w=>_ | none=>_)=_;rw[nb];dsimp only;unfold z8;obtain⟨p,e,hk⟩:=Qc hg hb;rw[fB,zD];show(match b.find? (fun p=>!cZ c2 p) with | some p=>_ | none=>_)=_;rw[e];subst hk;rfl
theorem Jc{ws:List Str}{most:Nat}{c c1 c2 c3 c4:bN}{ns:List Str}{s0 s1 s2 s3 s4 s5:Str}{d1 d2 d3 d4:List Flt}(g:gj ws most c)(hm:most<=40)(hw:ws.length=8)(hs:∀x∈[s0,s1,s2,s3,s4,s5],x∉ws)(up:[s0,s1,s2,s3,s4,s5].Pairwise hU)(h1:vn c c1 s0 s1 d1)(h2:vm c1 c2 s2 s3 d2)(h3:vk c2 c3 ns s4 s5 d3)(h4:xp c3 c4 d4):tZ c4:=by
 have Ei:hU s0 s1:=(aW.mp up).1 s1 (by simp);obtain⟨A,B,m1,lA,lB,_⟩:=Gd h1 (hs s0 (by simp)) (hs s1 (by simp)) Ei;have S2:=Gb h2;obtain⟨S3,FC,Vv,l3⟩:=Ga h3;obtain⟨S4,FA,zD⟩:=F9 h4;have S:=(S2.trans S3).trans S4;have m4:=S.more m1;have:=g.ll;have:=g.rl;have:=g.w2;have:=g.wl;have:=g.be.len;obtain⟨t1,b1,w1,e1,k1,l1,l2,_⟩:=uz h1 (by omega) (by omega);obtain⟨t2,b2,e2,k2,l4,l5,_⟩:=o3 h2;refine⟨⟨by rw[m4.t];omega,by rw[m4.t,m4.b];exact g.bl,by rw[S.l];omega,by rw[S.r];omega⟩,⟨ws++A++B,by simp only[aj];omega,m4.mem g⟩,?_,by rw[zD];rw[e2,e1] at l3;omega⟩;rw[FA,FC];rcases h2 with⟨rfl,_⟩ | ⟨⟨wd,k,rfl,hp,_⟩,_⟩
 ·rw[w1];omega
 ·rw[w1] at hp;rcases hp with p | p
  ·have:=p.length_eq;rw[aj] at this;show wd.length<=100;simp at this;omega
  ·have:=p.length_eq;rw[aj] at this;show wd.length<=100;simp at this;omega
theorem PZ{l ws:List Str}(nd:l.Nodup)(h:ws.length=8):(l.filter fun w=>decide (w∈ws)).length<=8:=by
 rw[<-h];refine Ii (nd.sublist List.filter_sublist) fun w hw=>?_
 simpa using (bf.mp hw).2
theorem PY(ws l:List Str):(l.filter fun w=>decide (w∉ws)).length+(l.filter fun w=>decide (w∈ws)).length=l.length:=by
 induction l with
 | nil=>rfl
 | cons a l ih=>by_cases h:a∈ws<;>simp[h]<;>simp at ih<;>omega
theorem nF:eu.Pairwise hU:=by
 unfold eu hU;decide
theorem six{ws:List Str}(h:ws.length=8):∃s0 s1 s2 s3 s4 s5:Str,(eu.filter fun w=>decide (w∉ws)).take 6=[s0,s1,s2,s3,s4,s5]/\(∀x∈[s0,s1,s2,s3,s4,s5],x∉ws)/\[s0,s1,s2,s3,s4,s5].Pairwise hU:=by
 have h1:=PZ (Cd nF) h;have h2:=PY ws eu;have h3:eu.length=16:=rfl;have sub:((eu.filter fun w=>decide (w∉ws)).take 6).Sublist (eu.filter fun w=>decide (w∉ws)):=List.take_sublist _ _;have hl:((eu.filter fun w=>decide (w∉ws)).take 6).length=6:=by rw[aP];omega
 have hn:∀x∈(eu.filter fun w=>decide (w∉ws)).take 6,x∉ws:=fun x hx=>by simpa using (bf.mp (sub.subset hx)).2
 have hu:=nF.sublist (sub.trans List.filter_sublist);generalize (eu.filter fun w=>decide (w∉ws)).take 6=L at hl hn hu;obtain⟨a,b,c,d,e,f,rfl⟩:∃a b c d e f,L=[a,b,c,d,e,f]:=by
  match L,hl with
  | [a,b,c,d,e,f],_=>exact⟨a,b,c,d,e,f,rfl⟩
 exact⟨a,b,c,d,e,f,rfl,hn,hu⟩
end Wc
namespace Wc
open PySem L2 PyProof.Rows
end Wc
open PySem L2 PyProof.Rows Wc
local macro_rules | `(tactic| walk_at "px")=>`(tactic| (repeat(first | walk_at "b" | simp only[zU,xl,nY])))
namespace Wc
open PySem L2 PyProof.Rows
theorem TY(f:Flt):dg 9 f.d:=by
 cases f<;>(unfold Flt.d;intro d hd;simp only[ah,aK,or_false] at hd;rcases hd with rfl | rfl<;>trivial)
def xn:TX:=(b8 (df 1 (fq 2 yd (bF (bz 0) (bF (dC (.int 30)) bQ))))
 (b8 (df 2 (fq 2 oY (bF (ek qY (bF (jN (bz 0) kX (iT (dC (.int 1)))) bQ)) (bF (dC (.int 21)) bQ))))
 (b8 (df 3 (fq 2 oY (bF (ek qY (bF (jN (bz 0) (iT (dC (.int 3))) (iT (dC (.int 4)))) bQ)) (bF (dC (.int 22)) bQ))))
 (b8 (rg (fq 4 ya (bF (bz 1) (bF (fq 1 yw (bF (bz 0) bQ)) (bF (bz 3) (bF (bz 2) bQ))))) (mG 2 (fZ (dy 4) (fZ (dy 5) jZ))))
 (b8 (df 6 (fq 1 uw (bF (bz 1) bQ)))
 (b8 (eO (sD (cL (bE zU (nY 1 rJ (fun _ _ _=>False) (bF (bz 6) bQ)) (dC (.bl true)))) (sM (cL (fq 2 vZ (bF (bz 6) (bF (bz 1) bQ)))))) (ft (dC (.bl false))) fb)
 (b8 (df 7 (fq 1 uw (bF (bz 4) bQ)))
 (b8 (eO (cL (bE oEq (ek jY (bF (bz 5) bQ)) (dC (.int 0)))) (ft (bE xl (nY 1 rJ (fun _ _ _=>False) (bF (bz 7) bQ)) (dC (.bl true)))) fb)
 (b8 (eO (sD (cL (bE yO (fq 2 wa (bF (dC (.int 0)) (bF (bz 7) bQ))) (bE cM (bz 5) (dC (.int 0))))) (sM (cL (fq 2 vZ (bF (bz 7) (bF (bz 4) bQ)))))) (ft (dC (.bl false))) fb)
 (ft (xj (bE xl (nY 1 rJ (fun _ _ _=>False) (bF (fq 1 uw (bF (bz 1) bQ)) bQ)) (dC (.bl true))) (bE oEq (fq 2 wa (bF (dC (.int 0)) (bF (bz 7) bQ))) (bE cM (bz 5) (dC (.int 0)))))))))))))))
theorem N5:jw 1 (BR 63) xn ["_law_script","_law_lists","_law_mix_here","_law_bits","_law_lots","_law_due","_law_good","_law_bad"]:=by
 intro ds Qr hl h;obtain⟨ns,rfl,hn,q⟩:=h;show xn _ [.fz (dI ns),.un,.un,.un,.un,.un,.un,.un];unfold xn;have big:=ie;walk_at "px";refine⟨ns,30,rfl,by omega,by decide,by decide,fun c g=>?_⟩;have kO:=PH (qN ns);obtain⟨s0,s1,s2,s3,s4,s5,eS,hs,up⟩:=six kO.len;have nw:=g.wl;have nb:=g.be.len;have nt:=g.w2;have nl:=g.ll;have nr:=g.rl;have nk:=g.ke.1;have sg:tZ c:=Jc (ns:=[]) (d1:=[]) (d2:=[]) (d3:=[]) (d4:=[]) g (by decide) kO.len hs up (.inl ⟨rfl,rfl⟩) (.inl ⟨rfl,rfl⟩) (.inl ⟨rfl,rfl⟩) (.inl ⟨rfl,rfl⟩);have fg:∀l,lj c l->sO c l=none:=fun l N=>Ic (d1:=[]) (d2:=[]) (d3:=[]) (d4:=[]) g (by decide) hs up (.inl ⟨rfl,rfl⟩) (.inl ⟨rfl,rfl⟩) (.inl ⟨rfl,rfl⟩) (.inl ⟨rfl,rfl⟩) N
 walk_at "go";unfold dI;walk_at "go";refine⟨_,_,rfl,by omega,by omega,_,_,rfl,by omega,by omega,?_⟩;walk_at "go";refine⟨ns,rfl,by omega,?_⟩;rw[eS];have nd:(c.bH.map (·.1)).Nodup:=List.Pairwise.map _ (fun a b h=>by omega) g.be.up;refine⟨c,s0,s1,s2,s3,s4,s5,_,_,rfl,sg.sh,g.w1,by omega,by omega,by omega,by omega,nd,by omega,fun c1 c2 c3 c4 d1 d2 d3 d4 h1 h2 h3 h4=>?_⟩;have fd:=fun l N=>Ic g (by decide) hs up h1 h2 h3 h4 (l:=l) N
 have sf:=Jc g (by decide) kO.len hs up h1 h2 h3 h4;generalize d1++d2++d3++d4=ds at fd;walk_at "go";refine⟨c,rfl,?_⟩;walk_at "go";refine⟨c,rfl,sg,fun l N=>?_⟩;rw[fg l N];unfold BI;simp only[ug,bne_self_eq_false,ay,aX];refine⟨c,rfl,?_⟩;simp only[Bool.not_true,ay,aX];walk_at "go";refine⟨c4,rfl,?_⟩;walk_at "go";rw[ae];cases ds with
 | nil=>
  rw[if_pos (by simp)];refine⟨c4,rfl,sf,fun l N=>?_⟩;rw[fd l N];exact q
 | cons f fs=>
  rw[if_neg (by simp;omega)];have fx:∀l,lj c4 l->sO c4 l=some f.x:=fun l N=>fd l N
  have a0:fF (List.map Flt.d (f::fs)) 0=some f.d:=qU _ _;walk_at "go";refine⟨_,c4,f,rfl,sf,fx,?_⟩;refine⟨_,a0,?_⟩;have ok:=TY f;have er:=xK 9 _ ok;refine⟨ok,ok,?_⟩;simp only[ug,er,Bool.not_true,ay,aX];refine⟨c4,rfl,?_⟩;simp only[Bool.not_true,ay,aX];walk_at "go";refine⟨c,rfl,c,rfl,sg,fun l N=>?_⟩;rw[fg l N];unfold BI;simp only[ug,beq_self_eq_true,bh];exact⟨_,c4,f,rfl,sf,fx,_,a0,ok,ok,by rw[ug,er];exact q⟩
end Wc
end
namespace Wc
open PySem PySem.Spec PyProof.Rows L2
local macro_rules | `(tactic| walk_at "sc")=>`(tactic| exact⟨rfl,rfl,rfl,by decide +kernel,rfl,by decide +kernel,by decide +kernel⟩)
local macro_rules | `(tactic| walk_at "bn")=>`(tactic| (intro _ _ _ _ _ _ us hl;first | (obtain⟨_,rfl⟩:=FY hl;exact rfl) | (obtain⟨_,_,rfl⟩:=FX hl;exact rfl) | (obtain⟨_,_,_,rfl⟩:=FW hl;exact rfl) | (obtain⟨_,_,_,_,rfl⟩:=FV hl;exact rfl) | (obtain⟨_,_,_,_,_,rfl⟩:=FU hl;exact rfl) | (obtain⟨_,_,_,_,_,_,rfl⟩:=FT hl;exact rfl) | (obtain⟨_,_,_,_,_,_,_,rfl⟩:=FR hl;exact rfl)))
def top(i:Nat):Stmt:=PySem.Challenge.pw_wirechannel_k12_channels_refused.main.body.getD i (.Pass ⟨0,0,0,0⟩)
structure Txt (K:PySem.W.Frag) (mg:Str->Option Value):Prop where
 b_ValueError:mg "ValueError"=none
 b_enumerate:mg "enumerate"=none
 b_int:mg "int"=none
 b_isinstance:mg "isinstance"=none
 b_len:mg "len"=none
 b_list:mg "list"=none
 b_max:mg "max"=none
 b_min:mg "min"=none
 b_range:mg "range"=none
 b_set:mg "set"=none
 b_sorted:mg "sorted"=none
 b_sum:mg "sum"=none
 eI:∃t,mg "MOST_KEPT"=some (.int 3 t)
section
variable {P:Program} {w:World} {K:PySem.W.Frag} {mg:Str->Option Value} {base:Heap} {bP bK bD bC bO bX bU bW bT cu bM bY:Addr}
abbrev gL:Stmt:=xB (top 28) 0
theorem Qb:bI ["self","top","bottom","left","right","wide","bends","keeps"] ("self"::["top","bottom","left","right","wide","bends","keeps"]) (bx gL):=by walk_at "sc"
theorem Rg(A:BG K mg "Channel" "Channel.__init__" gL ["top","bottom","left","right","wide","bends","keeps"])(T:Txt K mg) :lq P w K mg base 1 "Channel" 7 xW:=by
 obtain⟨C,f,fd,hC,M,F,hm,na⟩:=A.ex;refine⟨C,f,fd,_,M,Pu (T:=AD) F Qb hC (fun cf A outer s H E hr=>?_) (fun ds Qr _ h=>Q5 ds Qr _ (fun fs e p hp=>na.all _ (by rw[<-e];exact aI hp)) h),hm,F.binds fun _ _ _ _ _ _ us hl=>by obtain⟨_,_,_,_,_,_,_,_,rfl⟩:=FQ hl;exact rfl⟩;have hu:=hr.units;exact(uk hC.cls na.1 (qF rD T.b_list boot_list (bG (bA 1) bR))
  (uk hC.cls na.2.1 (qF rD T.b_list boot_list (bG (bA 2) bR))
  (uk hC.cls na.2.2.1 (qF rD T.b_list boot_list (bG (bA 3) bR))
  (uk hC.cls na.2.2.2.1 (qF rD T.b_list boot_list (bG (bA 4) bR))
  (uk hC.cls na.2.2.2.2.1 (qF rD T.b_list boot_list (bG (bA 5) bR))
  (uk hC.cls na.2.2.2.2.2.1 (qF rD T.b_list boot_list (bG (bA 6) bR))
  (uk hC.cls na.2.2.2.2.2.2.1 (qF rD T.b_list boot_list (bG (bA 7) bR))
  Nk)))))))
theorem jE:bI ["channel","pins"] ["channel"] (bx (top 15)):=by walk_at "sc"
theorem Q2:(["name"]:List Str).Nodup:=by decide +kernel
theorem jF:bI ["channel","name","ends","column"] ["channel","name"] (bx (top 14)):=by walk_at "sc"
theorem iq:bI ["channel","end"] ["channel","end"] (bx (top 16)):=by walk_at "sc"
theorem gZ:bI ["channel","name","columns"] ["channel","name"] (bx (top 17)):=by walk_at "sc"
theorem RP:(["end","channel"]:List Str).Nodup:=by decide +kernel
theorem jg:bI ["channel","column","name","stretch","pins"] ["channel","column","name"] (bx (top 24)):=by walk_at "sc"
theorem jf:bI ["columns","keep"] ["columns","keep"] (bx (top 26)):=by walk_at "sc"
theorem iu:bI ["_law_cell","_law_size","_law_signs","_law_stem_here","_law_k"] ["_law_cell","_law_size"] (bx (top 30)):=by walk_at "sc"
theorem g4:bI ["_law_cell","_law_size","_law_stem_here","_law_at","_law_other"] ["_law_cell"] (bx (top 31)):=by walk_at "sc"
theorem RO:(["_law_sign","_law_stem_here","_law_at","_law_size"]:List Str).Nodup:=by decide +kernel
theorem R5:(["_law_k","_law_stem_here","_law_size"]:List Str).Nodup:=by decide +kernel
theorem R4:(["_law_k","_law_stem_here"]:List Str).Nodup:=by decide +kernel
theorem jh:bI ["_law_cell","_law_k"] ["_law_cell","_law_k"] (bx (top 32)):=by walk_at "sc"
theorem iw:bI ["_law_words","_law_cells","_law_seed","_law_width","_law_top","_law_bottom","_law_c","_law_row","_law_side","_law_k","_law_one"] ["_law_words","_law_cells","_law_seed","_law_width"] (bx (top 33)):=by walk_at "sc"
theorem ix:bI ["_law_words","_law_bits"] ["_law_words","_law_bits"] (bx (top 38)):=by walk_at "sc"
theorem Rx:(["_law_k","_law_words","_law_bits"]:List Str).Nodup:=by decide +kernel
theorem iy:bI ["_law_top","_law_bottom","_law_left","_law_right","_law_word","_law_some"] ["_law_top","_law_bottom","_law_left","_law_right","_law_word"] (bx (top 34)):=by walk_at "sc"
theorem gw:bI ["_law_top","_law_bottom","_law_left","_law_right","_law_word","_law_places"] ["_law_top","_law_bottom","_law_left","_law_right","_law_word"] (bx (top 35)):=by walk_at "sc"
theorem So:(["_law_c","_law_word","_law_top","_law_bottom"]:List Str).Nodup:=by decide +kernel
theorem g6:bI ["_law_lists","_law_words","_law_cells","_law_seed","_law_top","_law_bottom","_law_left","_law_right","_law_bends_here","_law_c","_law_one","_law_word","_law_l","_law_r","_law_here"] ["_law_lists","_law_words","_law_cells","_law_seed"] (bx (top 36)):=by walk_at "sc"
theorem R3:(["_law_x"]:List Str).Nodup:=by decide +kernel
theorem g5:bI ["_law_width","_law_cells","_law_seed","_law_keeps_here","_law_k","_law_cell","_law_one","_law_first"] ["_law_width","_law_cells","_law_seed"] (bx (top 37)):=by walk_at "sc"
theorem gA:bI ["_law_script","_law_most","_law_seed","_law_words","_law_width","_law_cells","_law_top","_law_bottom","_law_bits","_law_left","_law_right","_law_lone_here","_law_wide","_law_k","_law_word","_law_one","_law_bends_here","_law_keeps_here"] ["_law_script","_law_most"] (bx (top 39)):=by walk_at "sc"
theorem Sn:(["_law_word","_law_top","_law_bottom","_law_left","_law_right"]:List Str).Nodup:=by decide +kernel
theorem Sm:(["_law_word","_law_lone_here"]:List Str).Nodup:=by decide +kernel
theorem Sk:(["_law_word","_law_lone_here"]:List Str).Nodup:=by decide +kernel
theorem Sj:(["_law_word","_law_lone_here"]:List Str).Nodup:=by decide +kernel
theorem Si:(["_law_word","_law_lone_here"]:List Str).Nodup:=by decide +kernel
theorem fi:bI ["_law_lists","_law_word","_law_mix_here","_law_top","_law_bottom","_law_left","_law_right","_law_l","_law_r","_law_taken","_law_found","_law_c","_law_here","_law_others","_law_column"] ["_law_lists","_law_word","_law_mix_here"] (bx (top 43)):=by walk_at "sc"
theorem SH:(["_law_pair"]:List Str).Nodup:=by decide +kernel
theorem SG:(["_law_x"]:List Str).Nodup:=by decide +kernel
theorem iC:bI ["_law_mix_here","_law_width","_law_first"] ["_law_mix_here","_law_width"] (bx (top 44)):=by walk_at "sc"
theorem gG:bI ["_law_lists","_law_words","_law_bits","_law_mix_here","_law_lots","_law_names","_law_due"] ["_law_lists","_law_words","_law_bits","_law_mix_here"] (bx (top 50)):=by walk_at "sc"
theorem Sy:(["_law_one"]:List Str).Nodup:=by decide +kernel
theorem Sx:(["_law_word"]:List Str).Nodup:=by decide +kernel
theorem fA:bI ["_law_script","_law_own","_law_some"] ["_law_script"] (bx (top 42)):=by walk_at "sc"
theorem SX:(["_law_word","_law_own"]:List Str).Nodup:=by decide +kernel
theorem iz:bI ["_law_lists","_law_copies"] ["_law_lists"] (bx (top 40)):=by walk_at "sc"
theorem Rw:(["_law_one"]:List Str).Nodup:=by decide +kernel
theorem iB:bI ["_law_channel_here","_law_lists","_law_told"] ["_law_channel_here","_law_lists"] (bx (top 41)):=by walk_at "sc"
theorem gz:bI ["_law_which","_law_channel_here","_law_error","e","_law_kinds"] ["_law_which","_law_channel_here"] (bx (top 52)):=by walk_at "sc"
theorem pM:bI ["_law_script","_law_lists","_law_mix_here","_law_bits","_law_lots","_law_due","_law_good","_law_bad"] ["_law_script"] (bx (top 53)):=by walk_at "sc"
abbrev mS:Stmt:=xB (top 3) 0
theorem NZ:bI ["self","word"] ["self","word"] (bx mS):=by walk_at "sc"
abbrev kS:Stmt:=xB (top 4) 0
theorem N4:bI ["self","word"] ["self","word"] (bx kS):=by walk_at "sc"
abbrev iV:Stmt:=xB (top 5) 0
theorem Qa:bI ["self","column"] ["self","column"] (bx iV):=by walk_at "sc"
abbrev iU:Stmt:=xB (top 6) 0
theorem P9:bI ["self","place"] ["self","place"] (bx iU):=by walk_at "sc"
variable (T:Txt K mg)
variable (gV:lq P w K mg base 1 "Channel" 7 xW)
include T in
theorem Rf(A:At K mg "nets_of" (top 15)):Known P w K mg base 1 "nets_of" 1 vR:=jD 0 A jE (fun f cf A outer s H E hr=>have hu:=hr.units;have nd:=jE.nd
 (ck (sY 1 rfl (.of (N':=["name"]) (m:=[none]) (by kernel_rfl)) j4 (kh (bS dH (jx (bA 0)) (jx (bA 0)))) (fun s3 H3 ex=>(d8 0 Q2)) (fun s3 H3 ex=>(qE (dQ xA (bA 0) nX))) (fun s3 H3 ex=>(bA 0)) nd)
   (cX (fP (Rr rfl T.b_sorted T.b_set (bG (bS dH (bS dH (bA 1) (jx (bA 0))) (jx (bA 0))) bR)))))) Q3 (by walk_at "bn")
variable (eC:Known P w K mg base 1 "nets_of" 1 vR)
include T in
theorem Rc(A:At K mg "ends_of" (top 14)):Known P w K mg base 1 "ends_of" 2 vS:=jD 0 A jF (fun f cf A outer s H E hr=>have hu:=hr.units;have nd:=jF.nd
 (ck (qC 2 (gr bR) nd)
   (ck (f6 (dQ (qu hu) (bA 1) (jx (bA 0))) (cX (nz 2 (gY (bG fN bR)))) fM)
   (ck (rE PassesOwn.never rfl (pG T.b_range (bG (gD lG T.b_len boot_len (bG (jx (bA 0)) bR)) bR)) (d8 3 nd)
    (ck (f6 (dQ (ic hu) (cV (jx (bA 0)) (bA 3)) (bA 1)) (cX (nz 2 (gY (bG fN (bG (bA 3) bR))))) fM)
   (cX (f6 (dQ (ic hu) (cV (jx (bA 0)) (bA 3)) (bA 1)) (cX (nz 2 (gY (bG fN (bG (bA 3) bR))))) fM))))
   (ck (f6 (dQ (qu hu) (bA 1) (jx (bA 0))) (cX (nz 2 (gY (bG fN bR)))) fM)
   (cX (Cz 2))))))) Q4 (by walk_at "bn")
variable (eD:Known P w K mg base 1 "ends_of" 2 vS)
include T in
theorem R1(A:At K mg "column_of" (top 16)):Known P w K mg base 1 "column_of" 2 yk:=jD 0 A iq (fun f cf A outer s H E hr=>have hu:=hr.units;have nd:=iq.nd
 (ck (f6 (dQ (ic hu) (cV (bA 1) bJ) fN) (cX (fP (Co bJ))) fM)
   (ck (f6 (dQ (ic hu) (cV (bA 1) bJ) fN) (cX (fP (gD lG T.b_len boot_len (bG (jx (bA 0)) bR)))) fM)
   (cX (fP (cV (bA 1) bJ)))))) Rz (by walk_at "bn")
variable (fJ:Known P w K mg base 1 "column_of" 2 yk)
include T eD fJ in
theorem Sw(A:At K mg "stretch_of" (top 17)):Known P w K mg base 2 "stretch_of" 2 yg:=jD 1 A gZ (fun f cf A outer s H E hr=>have hu:=hr.units;have nd:=gZ.nd
 (ck (sY 2 rfl (.of (N':=["end","channel"]) (m:=[none,some 0]) (by kernel_rfl)) j4 (kh (fO eD hr (bG (bA 0) (bG (bA 1) bR)))) (fun s3 H3 ex=>(d8 0 RP)) (fun s3 H3 ex=>oX) (fun s3 H3 ex=>(fO fJ hr (bG (bA 1) (bG (bA 0) bR)))) nd)
   (ck (f6 (dQ zP (Px rfl T.b_len T.b_set (bG (bA 2) bR)) bJ) (cX (fP nX)) fM)
   (cX (fP (gY (bG (gD (BQ rfl) T.b_min boot_min (bG (bA 2) bR)) (bG (gD (Gh rfl) T.b_max boot_max (bG (bA 2) bR)) bR)))))))) RR (by walk_at "bn")
variable (e7:Known P w K mg base 2 "stretch_of" 2 yg)
include T e7 in
theorem Rv(A:At K mg "can_bend" (top 24)):Known P w K mg base 3 "can_bend" 3 xV:=jD 2 A jg (fun f cf A outer s H E hr=>have hu:=hr.units;have nd:=jg.nd
 (ck (dN 3 (fO e7 hr (bG (bA 0) (bG (bA 2) bR))) nd)
   (ck (f6 (ui (dQ LB (bA 3) nX) (vE (vC (O3 zX zX (cV (bA 3) bJ) (bA 1) (cV (bA 3) bJ))))).pb (cX (fP sS)) fM)
   (ck (dN 4 (gY (bG (cV (jx (bA 0)) (bA 1)) (bG (cV (jx (bA 0)) (bA 1)) bR))) nd)
   (cX (fP (LV (rB (qu hu) (bA 2) (bA 4)) (Ac (rB (ic hu) (bA 4) (gY (bG nX (bG nX bR)))))))))))) Ri (by walk_at "bn")
variable (gm:Known P w K mg base 3 "can_bend" 3 xV)
include T in
theorem Ru(A:At K mg "can_keep" (top 26)):Known P w K mg base 1 "can_keep" 2 xU:=jD 0 A jf (fun f cf A outer s H E hr=>have hu:=hr.units;have nd:=jf.nd
 have ⟨tE,eI⟩:=T.eI
 (cX (fP (Ck (Ib zW zX (cV (bA 1) bJ) (cV (bA 1) bJ) (bA 0)) (Ac (Ib zW zW bJ (cV (bA 1) bJ) (O5 eI))))))) Rh (by walk_at "bn")
variable (gk:Known P w K mg base 1 "can_keep" 2 xU)
include T in
theorem R0(A:At K mg "_law_stem" (top 30)):Known P w K mg base 1 "_law_stem" 2 yn:=jD 0 A iu (fun f cf A outer s H E hr=>have hu:=hr.units;have nd:=iu.nd
 (ck (dN 2 fN nd)
   (ck (dN 3 fN nd)
   (ck (rE PassesOwn.never rfl (pG T.b_range (bG (bA 1) bR)) (d8 4 nd)
    (ck (dN 3 (bS dH (bA 3) (cV (bA 2) (bS dU (bA 0) bJ))) nd)
   (cX (dN 0 (bS fw (bA 0) bJ) nd))))
   (cX (fP (bA 3))))))) RF (by walk_at "bn")
variable (fK:Known P w K mg base 1 "_law_stem" 2 yn)
include T fK in
theorem Sv(A:At K mg "_law_named" (top 31)):Known P w K mg base 2 "_law_named" 1 vX:=jD 1 A g4 (fun f cf A outer s H E hr=>have hu:=hr.units;have nd:=g4.nd
 (ck (dN 0 (bS dU (bS rm (bS dH (bS dU (bA 0) (bS z0 bJ bJ)) bJ) bJ) (bS dH (bS z0 bJ bJ) bJ)) nd)
   (ck (dN 1 (bS dU (bA 0) bJ) nd)
   (ck (dN 2 (fO fK hr (bG (bS fw (bA 0) bJ) (bG bJ bR))) nd)
   (ck (dN 3 (bS dU (bS fw (bA 0) bJ) (bS dH (bA 1) bJ)) nd)
   (ck (f6 (dQ (ic hu) (bS dU (bS fw (bA 0) bJ) bJ) bJ) (cX (fP (oW rfl (.of (N':=["_law_sign","_law_stem_here","_law_at","_law_size"]) (m:=[none,some 2,some 3,some 1]) (by kernel_rfl)) j4 (kh fN) (fun s3 H3 ex=>(d8 0 RO)) (fun s3 H3 ex=>oX) (fun s3 H3 ex=>(bS dH (bS dH (kK (bA 1) mL (jz (bA 2))) (bA 0)) (kK (bA 1) (jz (bA 2)) (jz (bA 3)))))))) fM)
   (ck (f6 (dQ (ic hu) (bS dU (bS fw (bA 0) bJ) bJ) bJ) (cX (fP (oW rfl (.of (N':=["_law_k","_law_stem_here","_law_size"]) (m:=[none,some 2,some 1]) (by kernel_rfl)) j4 (pG T.b_range (bG bJ bR)) (fun s3 H3 ex=>(d8 0 R5)) (fun s3 H3 ex=>oX) (fun s3 H3 ex=>(bS dH (bS dH (bS dH (kK (bA 1) mL (jz (bS dU (bA 2) bJ))) (cV fN (bS fw (bA 0) bJ))) (cV fN (bS dU (bS fw (bA 0) bJ) bJ))) (cV fN (bS dU (bA 0) bJ))))))) fM)
   (ck (dN 4 (bS dH (cV fN (qF LR T.b_int boot_int (bG (rB (ic hu) (cV (bA 2) bJ) fN) bR))) (kK (bA 2) (jz bJ) mL)) nd)
   (cX (fP (bS dH (oW rfl (.of (N':=["_law_k","_law_stem_here"]) (m:=[none,some 2]) (by kernel_rfl)) j4 (pG T.b_range (bG bJ bR)) (fun s3 H3 ex=>(d8 0 R4)) (fun s3 H3 ex=>oX) (fun s3 H3 ex=>(kK (bA 1) mL (jz (bS dH (bA 0) bJ))))) (gr (bG (kK (bA 4) mL (jz bJ)) (bG (kK (bA 4) mL (jz bJ)) bR)))))))))))))) RU (by walk_at "bn")
variable (cR:Known P w K mg base 2 "_law_named" 1 vX)
include T in
theorem Rt(A:At K mg "_law_mix" (top 32)):Known P w K mg base 1 "_law_mix" 2 oY:=jD 0 A jh (fun f cf A outer s H E hr=>have hu:=hr.units;have nd:=jh.nd
 (cX (fP (bS fw (bS dU (bS dH (bS dH (bS rm (bS dU (bA 0) (bS z0 bJ bJ)) (bS dH (bS rm (bA 1) (bA 1)) bJ)) (bS rm (bS rm (bS rm bJ (bA 1)) (bA 1)) (bA 1))) bJ) bJ) bJ)))) Rj (by walk_at "bn")
variable (C__law_mix:Known P w K mg base 1 "_law_mix" 2 oY)
include T C__law_mix in
theorem RZ(A:At K mg "_law_pins" (top 33)):Known P w K mg base 2 "_law_pins" 4 ym:=jD 1 A iw (fun f cf A outer s H E hr=>have hu:=hr.units;have nd:=iw.nd
 (ck (qC 4 (gr bR) nd)
   (ck (qC 5 (gr bR) nd)
   (ck (rE PassesOwn.never rfl (pG T.b_range (bG (bA 3) bR)) (d8 6 nd)
    (ck (qC 7 (gr bR) nd)
   (ck (rE PassesOwn.never rfl (pG T.b_range (bG bJ bR)) (d8 8 nd)
    (ck (dN 9 (bS dH (bS rm bJ (bA 6)) (bA 8)) nd)
   (ck (dN 10 (fO C__law_mix hr (bG (bA 2) (bG (bA 9) bR))) nd)
   (ck (f6 (dQ zP (bA 9) (gD lG T.b_len boot_len (bG (bA 1) bR))) (cX (dN 10 (fO C__law_mix hr (bG (cV (bA 1) (bA 9)) (bG (bA 9) bR))) nd)) fM)
   (cX (nz 7 (cV (gr (bG (cV (bA 0) (bS dU (bA 10) bJ)) (bG (cV (bA 0) (bS dU (bS fw (bA 10) bJ) bJ)) (bG (cV (bA 0) (bS dU (bS fw (bA 10) bJ) bJ)) (bG nX bR))))) (bS dU (bS fw (bA 10) bJ) bJ))))))))
   (ck (nz 4 (Cj 7 bJ))
   (cX (nz 5 (Cj 7 bJ)))))))
   (vD 5 (vD 4 (cX (fP (gY (bG (bA 4) (bG (bA 5) bR))))))))))) RE (by walk_at "bn")
variable (fL:Known P w K mg base 2 "_law_pins" 4 ym)
include T in
theorem RY(A:At K mg "_law_open" (top 38)):Known P w K mg base 1 "_law_open" 2 v7:=jD 0 A ix (fun f cf A outer s H E hr=>have hu:=hr.units;have nd:=ix.nd
 (ck (f6 (dQ (ic hu) (bS dU (bS fw (bA 1) bJ) bJ) bJ) (cX (fP (gr bR))) fM)
   (cX (fP (gD (xQ rfl) T.b_sorted boot_sorted (bG (oW rfl (.of (N':=["_law_k","_law_words","_law_bits"]) (m:=[none,some 0,some 1]) (by kernel_rfl)) j4 (pG T.b_range (bG bJ bR)) (fun s3 H3 ex=>(d8 0 Rx)) (fun s3 H3 ex=>(qE (dQ (ic hu) (bS dU (bS fw (bA 2) (cV (gr (bG bJ (bG bJ (bG bJ (bG bJ (bG bJ (bG bJ (bG bJ (bG bJ bR))))))))) (bA 0))) bJ) bJ))) (fun s3 H3 ex=>(cV (bA 1) (bA 0)))) bR)))))) RC (by walk_at "bn")
variable (eJ:Known P w K mg base 1 "_law_open" 2 v7)
include T in
theorem RX(A:At K mg "_law_many" (top 34)):Known P w K mg base 1 "_law_many" 5 v8:=jD 0 A iy (fun f cf A outer s H E hr=>have hu:=hr.units;have nd:=iy.nd
 (ck (dN 5 (bS dH (bS dH (bS dH (bA 0) (bA 1)) (bA 2)) (bA 3)) nd)
   (cX (fP (HD (HB hu) (.inl rfl) PySem.F.plainAttrs_list PySem.F.slot_list_count PySem.F.type_list_count (bA 5) (bG (bA 4) bR)))))) RD (by walk_at "bn")
variable (eK:Known P w K mg base 1 "_law_many" 5 v8)
include T in
theorem Sa(A:At K mg "_law_stretch" (top 35)):Known P w K mg base 1 "_law_stretch" 5 wb:=jD 0 A gw (fun f cf A outer s H E hr=>have hu:=hr.units;have nd:=gw.nd
 (ck (Np 5 rfl (.of (N':=["_law_c","_law_word","_law_top","_law_bottom"]) (m:=[none,some 4,some 0,some 1]) (by kernel_rfl)) j4 (pG T.b_range (bG (gD lG T.b_len boot_len (bG (bA 0) bR)) bR)) (fun s3 H3 ex=>(d8 0 So)) (fun s3 H3 ex=>(qE (dQ (qu hu) (bA 1) (gr (bG (cV (bA 2) (bA 0)) (bG (cV (bA 3) (bA 0)) bR)))))) (fun s3 H3 ex=>(bA 0)) nd)
   (ck (f6 (dQ (qu hu) (bA 4) (bA 2)) (cX (nz 5 (Co bJ))) fM)
   (ck (f6 (dQ (qu hu) (bA 4) (bA 3)) (cX (nz 5 (gD lG T.b_len boot_len (bG (bA 0) bR)))) fM)
   (vD 5 (cX (fP (gY (bG (gD (BQ rfl) T.b_min boot_min (bG (bS dH (bA 5) (gr (bG bJ bR))) bR)) (bG (gD (Gh rfl) T.b_max boot_max (bG (bS dH (bA 5) (gr (bG (Co bJ) bR))) bR)) bR)))))))))) Su (by walk_at "bn")
variable (cD:Known P w K mg base 1 "_law_stretch" 5 wb)
include T C__law_mix cD in
theorem RN(A:At K mg "_law_bends" (top 36)):Known P w K mg base 2 "_law_bends" 4 yi:=jD 1 A g6 (fun f cf A outer s H E hr=>have hu:=hr.units;have nd:=g6.nd
 (ck (vB (bA 0) (HA rfl (iN (d8 4 nd) (iN (d8 5 nd) (iN (d8 6 nd) (iN (d8 7 nd) oS))))))
   (ck (qC 8 (gr bR) nd)
   (ck (rE PassesOwn.never rfl (pG T.b_range (bG (gD lG T.b_len boot_len (bG (bA 4) bR)) bR)) (d8 9 nd)
    (ck (dN 10 (fO C__law_mix hr (bG (cV (bS dH (bA 2) (gr (bG (bA 3) bR))) (bS dU (bA 9) (bS dH (gD lG T.b_len boot_len (bG (bA 2) bR)) bJ))) (bG (bS dH (bA 9) bJ) bR))) nd)
   (ck (dN 11 (cV (bA 1) (bS dU (bA 10) bJ)) nd)
   (ck (f6 (td (dQ (ic hu) (bS dU (bS fw (bA 10) bJ) bJ) bJ) (vP (dQ xA (cV (bA 4) (bA 9)) nX))).pb (cX (dN 11 (cV (bA 4) (bA 9)) nd)) fM)
   (ck (vB (fO cD hr (bG (bA 4) (bG (bA 5) (bG (bA 6) (bG (bA 7) (bG (bA 11) bR)))))) (qD rfl (iN (d8 12 nd) (iN (d8 13 nd) oS))))
   (ck (sY 14 rfl (.of (N':=["_law_x"]) (m:=[none]) (by kernel_rfl)) j4 (kh (gr (bG (cV (bA 4) (bA 9)) (bG (cV (bA 5) (bA 9)) bR)))) (fun s3 H3 ex=>(d8 0 R3)) (fun s3 H3 ex=>(qE (dQ xA (bA 0) nX))) (fun s3 H3 ex=>(bA 0)) nd)
   (cX (f6 (td (dQ zP (bA 12) (bA 9)) (td (dQ zP (bA 9) (bA 13)) (td (ui (dQ (ic hu) (bA 14) (gr bR)) (vE (dQ (qu hu) (bA 11) (bA 14)))).pb (vP (dQ xk (bS dU (bS fw (bA 10) bJ) bJ) bJ))))).pb (cX (nz 8 (gY (bG (bA 9) (bG (bA 11) bR))))) fM))))))))
   (cX (Cz 8)))))) RT (by walk_at "bn")
variable (e9:Known P w K mg base 2 "_law_bends" 4 yi)
include T C__law_mix in
theorem RM(A:At K mg "_law_keeps" (top 37)):Known P w K mg base 2 "_law_keeps" 3 yh:=jD 1 A g5 (fun f cf A outer s H E hr=>have hu:=hr.units;have nd:=g5.nd
 (ck (qC 3 (gr bR) nd)
   (ck (rE PassesOwn.never rfl (CY T.b_enumerate (bG (kK (bA 1) mL (jz bJ)) bR)) (qD rfl (iN (d8 4 nd) (iN (d8 5 nd) oS)))
    (ck (dN 6 (fO C__law_mix hr (bG (bS dH (bA 5) (bA 2)) (bG (bS dH (bA 4) bJ) bR))) nd)
   (ck (dN 7 (bS dU (bA 6) (bA 0)) nd)
   (cX (f6 (dQ (ic hu) (bS dU (bS fw (bA 6) bJ) bJ) bJ) (cX (nz 3 (gY (bG (bA 7) (bG (bS dH (bA 7) (bS dU (bS fw (bA 6) bJ) (bS Gj (bA 0) (bA 7)))) (bG (bS dH bJ (bS dU (bS fw (bA 6) bJ) bJ)) bR)))))) fM)))))
   (cX (Cz 3))))) RS (by walk_at "bn")
variable (e8:Known P w K mg base 2 "_law_keeps" 3 yh)
include T cR C__law_mix fL eJ eK e9 e8 in
theorem R9(A:At K mg "_law_channel" (top 39)):Known P w K mg base 3 "_law_channel" 2 yd:=jD 2 A gA (fun f cf A outer s H E hr=>have hu:=hr.units;have nd:=gA.nd
 (ck (dN 2 (bS dU (bS rm (bS dU (gD (vo rfl) T.b_sum boot_sum (bG (kK (bA 0) mL (jz bJ)) bR)) (bS z0 bJ bJ)) bJ) bJ) nd)
   (ck (dN 3 (fO cR hr (bG (gD (vo rfl) T.b_sum boot_sum (bG (kK (bA 0) mL (jz bJ)) bR)) bR)) nd)
   (ck (dN 4 (bS dH bJ (bS dU (bA 2) (bA 1))) nd)
   (ck (dN 5 (kK (bA 0) (jz bJ) mL) nd)
   (ck (vB (fO fL hr (bG (bA 3) (bG (bA 5) (bG (bA 2) (bG (bA 4) bR))))) (qD rfl (iN (d8 6 nd) (iN (d8 7 nd) oS))))
   (ck (dN 8 (fO C__law_mix hr (bG (gD (vo rfl) T.b_sum boot_sum (bG (kK (bA 0) (jz bJ) (jz bJ)) bR)) (bG (bS dH bJ (bS dU (bA 2) bJ)) bR))) nd)
   (ck (dN 9 (fO eJ hr (bG (bA 3) (bG (bA 8) bR))) nd)
   (ck (dN 10 (fO eJ hr (bG (bA 3) (bG (bS fw (bA 8) bJ) bR))) nd)
   (ck (dN 11 (oW rfl (.of (N':=["_law_word","_law_top","_law_bottom","_law_left","_law_right"]) (m:=[none,some 6,some 7,some 9,some 10]) (by kernel_rfl)) j4 (kh (bA 3)) (fun s3 H3 ex=>(d8 0 Sn)) (fun s3 H3 ex=>(qE (dQ (ic hu) (fO eK hr (bG (bA 1) (bG (bA 2) (bG (bA 3) (bG (bA 4) (bG (bA 0) bR)))))) bJ))) (fun s3 H3 ex=>(bA 0))) nd)
   (ck (dN 6 (oW rfl (.of (N':=["_law_word","_law_lone_here"]) (m:=[none,some 11]) (by kernel_rfl)) j4 (kh (bA 6)) (fun s3 H3 ex=>(d8 0 Sm)) (fun s3 H3 ex=>oX) (fun s3 H3 ex=>(Iy (dQ (qu hu) (bA 0) (bA 1)) nX (bA 0)))) nd)
   (ck (dN 7 (oW rfl (.of (N':=["_law_word","_law_lone_here"]) (m:=[none,some 11]) (by kernel_rfl)) j4 (kh (bA 7)) (fun s3 H3 ex=>(d8 0 Sk)) (fun s3 H3 ex=>oX) (fun s3 H3 ex=>(Iy (dQ (qu hu) (bA 0) (bA 1)) nX (bA 0)))) nd)
   (ck (dN 9 (oW rfl (.of (N':=["_law_word","_law_lone_here"]) (m:=[none,some 11]) (by kernel_rfl)) j4 (kh (bA 9)) (fun s3 H3 ex=>(d8 0 Sj)) (fun s3 H3 ex=>(qE (dQ (vF hu) (bA 0) (bA 1)))) (fun s3 H3 ex=>(bA 0))) nd)
   (ck (dN 10 (oW rfl (.of (N':=["_law_word","_law_lone_here"]) (m:=[none,some 11]) (by kernel_rfl)) j4 (kh (bA 10)) (fun s3 H3 ex=>(d8 0 Si)) (fun s3 H3 ex=>(qE (dQ (vF hu) (bA 0) (bA 1)))) (fun s3 H3 ex=>(bA 0))) nd)
   (ck (qC 12 (gr bR) nd)
   (ck (rE PassesOwn.never rfl (CY T.b_enumerate (bG (gD (xQ rfl) T.b_sorted boot_sorted (bG (bA 3) bR)) bR)) (qD rfl (iN (d8 13 nd) (iN (d8 14 nd) oS)))
    (ck (dN 15 (fO C__law_mix hr (bG (bS dH (bA 2) (bA 13)) (bG bJ bR))) nd)
   (cX (f6 (td (dQ (ic hu) (bS dU (bA 15) bJ) bJ) (vP (dQ xk (fO eK hr (bG (bA 6) (bG (bA 7) (bG (bA 9) (bG (bA 10) (bG (bA 14) bR)))))) bJ))).pb (cX (nz 12 (gY (bG (bA 14) (bG (bS dH bJ (bS dU (bS fw (bA 15) bJ) bJ)) bR))))) fM))))
   (ck (dN 16 (fO e9 hr (bG (gr (bG (bA 6) (bG (bA 7) (bG (bA 9) (bG (bA 10) bR))))) (bG (bA 3) (bG (bA 5) (bG (bA 2) bR))))) nd)
   (ck (dN 17 (gr bR) nd)
   (ck (f6 (dQ (ic hu) (bS dU (bS fw (bA 2) bJ) bJ) bJ) (cX (dN 17 (fO e8 hr (bG (bA 4) (bG (bA 5) (bG (bA 2) bR)))) nd)) fM)
   (vD 12 (cX (fP (gr (bG (bA 6) (bG (bA 7) (bG (bA 9) (bG (bA 10) (bG (bA 12) (bG (bA 16) (bG (bA 17) bR)))))))))))))))))))))))))))))) Ss (by walk_at "bn")
variable (C__law_channel:Known P w K mg base 3 "_law_channel" 2 yd)
include T cD in
theorem SR(A:At K mg "_law_bad_column" (top 43)):Known P w K mg base 2 "_law_bad_column" 3 yq:=jD 1 A fi (fun f cf A outer s H E hr=>have hu:=hr.units;have nd:=fi.nd
 (ck (vB (kK (bA 0) mL (jz bJ)) (HA rfl (iN (d8 3 nd) (iN (d8 4 nd) (iN (d8 5 nd) (iN (d8 6 nd) oS))))))
   (ck (vB (fO cD hr (bG (bA 3) (bG (bA 4) (bG (bA 5) (bG (bA 6) (bG (bA 1) bR)))))) (qD rfl (iN (d8 7 nd) (iN (d8 8 nd) oS))))
   (ck (sY 9 rfl (.of (N':=["_law_pair"]) (m:=[none]) (by kernel_rfl)) j4 (kh (cV (bA 0) bJ)) (fun s3 H3 ex=>(d8 0 SH)) (fun s3 H3 ex=>oX) (fun s3 H3 ex=>(cV (bA 0) bJ)) nd)
   (ck (qC 10 (gr bR) nd)
   (ck (rE PassesOwn.never rfl (pG T.b_range (bG (gD lG T.b_len boot_len (bG (bA 3) bR)) bR)) (d8 11 nd)
    (ck (sY 12 rfl (.of (N':=["_law_x"]) (m:=[none]) (by kernel_rfl)) j4 (kh (gr (bG (cV (bA 3) (bA 11)) (bG (cV (bA 4) (bA 11)) bR)))) (fun s3 H3 ex=>(d8 0 SG)) (fun s3 H3 ex=>(qE (dQ xA (bA 0) nX))) (fun s3 H3 ex=>(bA 0)) nd)
   (ck (dN 13 (Ck (rB (BL hu) (bA 12) (gr bR)) (Ac (rB (vF hu) (bA 1) (bA 12)))) nd)
   (cX (f6 (td (dQ (vF hu) (bA 11) (bA 9)) (vP (ui (dQ K8 (bA 11) (bA 7)) (ui (dQ K7 (bA 11) (bA 8)) (vE (pD (bA 13))))).pb)).pb (cX (nz 10 (bA 11))) fM)))))
   (ck (f6 (td (dQ xk (Hu 10 T.b_len) bJ) (vP (dQ xk (bS dU (bA 2) bJ) bJ))).pb (cX (fP (Cj 10 (bS dU (bS fw (bA 2) bJ) (Hu 10 T.b_len))))) fM)
   (ck (dN 14 (bS dH (gD lG T.b_len boot_len (bG (bA 3) bR)) (bS dU (bS fw (bA 2) bJ) bJ)) nd)
   (ck (OY PassesOwn.never (dQ (qu hu) (bA 14) (bA 9)) (cX (dN 14 (bS dH (bA 14) bJ) nd)))
   (cX (fP (bA 14)))))))))))) SK (by walk_at "bn")
variable (c9:Known P w K mg base 2 "_law_bad_column" 3 yq)
include T in
theorem RW(A:At K mg "_law_keep" (top 44)):Known P w K mg base 1 "_law_keep" 2 vY:=jD 0 A iC (fun f cf A outer s H E hr=>have hu:=hr.units;have nd:=iC.nd
 (ck (dN 2 (bS dU (bS fw (bA 0) bJ) (bA 1)) nd)
   (ck (f6 (dQ (ic hu) (bS dU (bA 0) bJ) bJ) (cX (fP (gY (bG (bS dH (bA 2) bJ) (bG (bA 2) (bG bJ bR)))))) fM)
   (ck (f6 (dQ (ic hu) (bS dU (bA 0) bJ) bJ) (cX (fP (gY (bG (bA 2) (bG (bS dH (bA 1) (bS dU (bS fw (bA 0) bJ) (bS Gj bJ (bA 1)))) (bG bJ bR)))))) fM)
   (cX (fP (gY (bG (bA 2) (bG (bA 2) (bG (cV (gr (bG bJ (bG bJ (bG bJ (bG bJ bR))))) (bS dU (bS fw (bA 0) bJ) bJ)) bR)))))))))) Ry (by walk_at "bn")
variable (eN:Known P w K mg base 1 "_law_keep" 2 vY)
theorem iA:bI ["_law_lots","_law_words","_law_mix_here","_law_side"] ["_law_lots","_law_words","_law_mix_here"] (bx (top 45)):=by walk_at "sc"
include T in
theorem RL(A:At K mg "_law_lone" (top 45)):cH P w K mg base 1 "_law_lone" 2 yf:=xX (T:=AK) 0 A iA (fun a Qr f cf A outer s H E hr=>have hu:=hr.units;have nd:=iA.nd
 (lT (Nd (dQ (ic hu) (bS dU (bA 2) bJ) bJ) (lT (mI (dN 3 (bS dH bJ (bS dU (bS fw (bA 2) bJ) bJ)) nd))
   (lT (mI (rH 0 (bA 3) (rF 0 (gD (xQ rfl) T.b_sorted boot_sorted (bG (bS dH (cV (bA 0) (bA 3)) (gr (bG (cV (bA 1) (bS dU (bS fw (bA 2) bJ) bJ)) bR))) bR)))))
   (vM (vK 0 (gY (bG fN (bG (cV (bA 1) (bS dU (bS fw (bA 2) bJ) bJ)) bR))))))) (NL fM))
   (lT (mI (rH 0 bJ (rF 0 (gD (xQ rfl) T.b_sorted boot_sorted (bG (bS dH (cV (bA 0) bJ) (gr (bG (cV (bA 1) bJ) bR))) bR)))))
   (lT (mI (rH 0 bJ (rF 0 (gD (xQ rfl) T.b_sorted boot_sorted (bG (bS dH (cV (bA 0) bJ) (gr (bG (cV (bA 1) bJ) bR))) bR)))))
   (vM (vK 0 (gY (bG fN (bG (cV (bA 1) bJ) bR))))))))) RQ (by walk_at "bn")
variable (fG:cH P w K mg base 1 "_law_lone" 2 yf)
theorem gy:bI ["_law_lots","_law_words","_law_mix_here","_law_some","_law_more"] ["_law_lots","_law_words","_law_mix_here"] (bx (top 46)):=by walk_at "sc"
theorem Sh:(["_law_word","_law_mix_here"]:List Str).Nodup:=by decide +kernel
include T in
theorem SW(A:At K mg "_law_strange" (top 46)):cH P w K mg base 1 "_law_strange" 2 ye:=xX (T:=AR) 0 A gy (fun a Qr f cf A outer s H E hr=>have hu:=hr.units;have nd:=gy.nd
 (lT (mI (dN 3 (kK (bA 1) (jz bJ) (jz (bS dH bJ (bS dU (bA 2) bJ)))) nd))
   (lT (mI (sY 4 rfl (.of (N':=["_law_word","_law_mix_here"]) (m:=[none,some 2]) (by kernel_rfl)) j4 (kh (bA 3)) (fun s3 H3 ex=>(d8 0 Sh)) (fun s3 H3 ex=>oX) (fun s3 H3 ex=>(gY (bG (bA 0) (bG (bS dH bJ (bS dU (bS fw (bA 1) bJ) bJ)) bR)))) nd))
   (lT (mI (rH 0 bJ (rF 0 (gD (NM (fun n h1 h2=>Ts.nG h1 h2) rfl) T.b_sorted boot_sorted (bG (bS dH (cV (bA 0) bJ) (bA 4)) bR)))))
   (vM (vK 0 (gY (bG fN (bG (cV (bA 3) bJ) bR))))))))) Sb (by walk_at "bn")
variable (d0:cH P w K mg base 1 "_law_strange" 2 ye)
theorem d9:bI ["_law_lots","_law_words","_law_mix_here","_law_first"] ["_law_lots","_law_words","_law_mix_here"] (bx (top 47)):=by walk_at "sc"
include T in
theorem S5(A:At K mg "_law_strange_bends" (top 47)):cH P w K mg base 1 "_law_strange_bends" 2 yt:=xX (T:=AW) 0 A d9 (fun a Qr f cf A outer s H E hr=>have hu:=hr.units;have nd:=d9.nd
 (lT (mI (dN 3 (bS dH (xJ 0 (gD lG T.b_len boot_len (bG (cV (bA 0) bJ) bR))) (bS dU (bS fw (bA 2) bJ) bJ)) nd))
   (lT (mI (rH 0 bJ (rF 0 (bS dH (cV (bA 0) bJ) (gr (bG (gY (bG (bA 3) (bG (cV (bA 1) bJ) bR))) bR))))))
   (lT (mI (f6 (dQ (ic hu) (bS dU (bA 2) bJ) bJ) (cX (rH 0 bJ (rF 0 (bS dH (cV (bA 0) bJ) (gr (bG (gY (bG (bS dH (bS dH (bA 3) bJ) (bS dU (bS fw (bA 2) bJ) bJ)) (bG (cV (bA 1) bJ) bR))) bR)))))) fM))
   (vM (vK 0 (gY (bG fN (bG (cV (bA 1) bJ) bR))))))))) S1 (by walk_at "bn")
variable (cG:cH P w K mg base 1 "_law_strange_bends" 2 yt)
theorem fE:bI ["_law_lots","_law_names","_law_mix_here","_law_found","_law_k","_law_word","_law_column"] ["_law_lots","_law_names","_law_mix_here"] (bx (top 48)):=by walk_at "sc"
include T c9 in
theorem SQ(A:At K mg "_law_bad_bends" (top 48)):cH P w K mg base 3 "_law_bad_bends" 2 yp:=xX (T:=AM) 2 A fE (fun a Qr f cf A outer s H E hr=>have hu:=hr.units;have nd:=fE.nd
 (lT (mI (qC 3 (gr bR) nd))
   (lT (mI (rE PassesOwn.never rfl (pG T.b_range (bG (bS dH bJ (bS dU (bA 2) bJ)) bR)) (d8 4 nd)
    (ck (dN 5 (cV (bA 1) (bS dU (bS fw (bA 2) (bS dH bJ (bS rm bJ (bA 4)))) (gD lG T.b_len boot_len (bG (bA 1) bR)))) nd)
   (ck (dN 6 (xJ 0 (fO c9 hr (bG (bA 0) (bG (bA 5) (bG (bS fw (bA 2) (bS dH bJ (bA 4))) bR))))) nd)
   (ck (rH 0 bJ (rF 0 (gD (Pl rfl) T.b_sorted boot_sorted (bG (bS dH (cV (bA 0) bJ) (gr (bG (gY (bG (bA 6) (bG (bA 5) bR))) bR))) bR))))
   (cX (nz 3 (bA 6))))))))
   (Od 3 (vM (vK 0 (gY (bG fN (bG (gD (BQ rfl) T.b_min boot_min (bG (bA 3) bR)) bR))))))))) SJ (by walk_at "bn")
variable (di:cH P w K mg base 3 "_law_bad_bends" 2 yp)
theorem fD:bI ["_law_lots","_law_mix_here","_law_place","_law_one"] ["_law_lots","_law_mix_here"] (bx (top 49)):=by walk_at "sc"
include T eN in
theorem SN(A:At K mg "_law_bad_keeps" (top 49)):cH P w K mg base 2 "_law_bad_keeps" 1 yr:=xX (T:=AN) 1 A fD (fun a Qr f cf A outer s H E hr=>have hu:=hr.units;have nd:=fD.nd
 (lT (mI (dN 2 (bS dU (bS fw (bA 1) bJ) (bS dH (xJ 0 (gD lG T.b_len boot_len (bG (cV (bA 0) bJ) bR))) bJ)) nd))
   (lT (mI (dN 3 (fO eN hr (bG (bS fw (bA 1) bJ) (bG (xJ 0 (gD lG T.b_len boot_len (bG (cV (bA 0) bJ) bR))) bR))) nd))
   (lT (mI (rH 0 bJ (rF 0 (bS dH (bS dH (kK (cV (bA 0) bJ) mL (jz (bA 2))) (gr (bG (bA 3) bR))) (kK (cV (bA 0) bJ) (jz (bA 2)) mL)))))
   (lT (mI (f6 (dQ (ic hu) (bS dU (bA 1) bJ) bJ) (cX (rH 0 bJ (rF 0 (bS dH (cV (bA 0) bJ) (gr (bG (fO eN hr (bG (bS fw (bA 1) bJ) (bG (xJ 0 (gD lG T.b_len boot_len (bG (cV (bA 0) bJ) bR))) bR))) bR)))))) fM))
   (vM (vK 0 (gY (bG fN (bG (bA 2) bR)))))))))) SM (by walk_at "bn")
variable (dh:cH P w K mg base 2 "_law_bad_keeps" 1 yr)
include T fG d0 cG di dh in
theorem Sg(A:At K mg "_law_faulty" (top 50)):Known P w K mg base 4 "_law_faulty" 4 ya:=jD 3 A gG (fun f cf A outer s H E hr=>have hu:=hr.units;have nd:=gG.nd
 (ck (Pf 4 rfl (.of (N':=["_law_one"]) (m:=[none]) (by kernel_rfl)) j4 (kh (bA 0)) (fun s3 H3 ex=>(d8 0 Sy)) (fun s3 H3 ex=>oX) (fun s3 H3 ex=>(qF rD T.b_list boot_list (bG (bA 0) bR))) nd)
   (ck (sY 5 rfl (.of (N':=["_law_word"]) (m:=[none]) (by kernel_rfl)) j4 (kh (bS dH (cV (bA 0) bJ) (cV (bA 0) bJ))) (fun s3 H3 ex=>(d8 0 Sx)) (fun s3 H3 ex=>(qE (dQ xA (bA 0) nX))) (fun s3 H3 ex=>(bA 0)) nd)
   (ck (qC 6 (gr bR) nd)
   (ck (f6 (dQ (ic hu) (bS dU (bA 2) bJ) bJ) (cX (xO 6 4 fG hr (bG (bA 1) (bG (bA 3) bR)))) fM)
   (ck (f6 (dQ (ic hu) (bS dU (bS fw (bA 2) bJ) bJ) bJ) (cX (xO 6 4 d0 hr (bG (bA 1) (bG (bS fw (bA 3) bJ) bR)))) fM)
   (ck (f6 (dQ (ic hu) (bS dU (bS fw (bA 2) bJ) bJ) bJ) (cX (xO 6 4 cG hr (bG (bA 1) (bG (bS fw (bA 3) bJ) bR)))) (cX (f6 (td (dQ (ic hu) (bS dU (bS fw (bA 2) bJ) bJ) bJ) (vP (dQ xk (gD lG T.b_len boot_len (bG (bA 5) bR)) bJ))).pb (cX (xO 6 4 di hr (bG (bA 5) (bG (bS fw (bA 3) bJ) bR)))) fM)))
   (ck (f6 (dQ (ic hu) (bS dU (bS fw (bA 2) bJ) bJ) bJ) (cX (xO 6 4 dh hr (bG (bA 3) bR))) fM)
   (vD 6 (vD 4 (cX (fP (gY (bG (bA 4) (bG (bA 6) bR))))))))))))))) Sz (by walk_at "bn")
variable (C__law_faulty:Known P w K mg base 4 "_law_faulty" 4 ya)
include T cR in
theorem SE(A:At K mg "_law_strangers" (top 42)):Known P w K mg base 3 "_law_strangers" 1 yw:=jD 2 A fA (fun f cf A outer s H E hr=>have hu:=hr.units;have nd:=fA.nd
 (ck (dN 1 (fO cR hr (bG (gD (vo rfl) T.b_sum boot_sum (bG (kK (bA 0) mL (jz bJ)) bR)) bR)) nd)
   (ck (dN 2 (gr (bG fN (bG fN (bG fN (bG fN (bG fN (bG fN (bG fN (bG fN (bG fN (bG fN (bG fN (bG fN (bG fN (bG fN (bG fN (bG fN bR))))))))))))))))) nd)
   (cX (fP (kK (oW rfl (.of (N':=["_law_word","_law_own"]) (m:=[none,some 1]) (by kernel_rfl)) j4 (kh (bA 2)) (fun s3 H3 ex=>(d8 0 SX)) (fun s3 H3 ex=>(qE (dQ (vF hu) (bA 0) (bA 1)))) (fun s3 H3 ex=>(bA 0))) mL (jz bJ))))))) SY (by walk_at "bn")
variable (C__law_strangers:Known P w K mg base 3 "_law_strangers" 1 yw)
include T gV in
theorem RV(A:At K mg "_law_made" (top 40)):Known P w K mg base 3 "_law_made" 1 uw:=jD 2 A iz (fun f cf A outer s H E hr=>have hu:=hr.units;have nd:=iz.nd
 (ck (sY 1 rfl (.of (N':=["_law_one"]) (m:=[none]) (by kernel_rfl)) j4 (kh (bA 0)) (fun s3 H3 ex=>(d8 0 Rw)) (fun s3 H3 ex=>oX) (fun s3 H3 ex=>(qF rD T.b_list boot_list (bG (bA 0) bR))) nd)
   (cX (fP (OR gV hr (bG (cV (bA 1) bJ) (bG (cV (bA 1) bJ) (bG (cV (bA 1) bJ) (bG (cV (bA 1) bJ) (bG (cV (bA 1) bJ) (bG (cV (bA 1) bJ) (bG (cV (bA 1) bJ) bR)))))))))))) RB (by walk_at "bn")
variable (C__law_made:Known P w K mg base 3 "_law_made" 1 uw)
include T in
theorem RH(A:At K mg "_law_kept" (top 41)):Known P w K mg base 1 "_law_kept" 2 vZ:=jD 0 A iB (fun f cf A outer s H E hr=>have hu:=hr.units;have nd:=iB.nd
 (ck (dN 2 (gr (bG (jx (bA 0)) (bG (jx (bA 0)) (bG (jx (bA 0)) (bG (jx (bA 0)) (bG (jx (bA 0)) (bG (jx (bA 0)) (bG (jx (bA 0)) bR)))))))) nd)
   (cX (fP (rB (ic hu) (bA 2) (bA 1)))))) RA (by walk_at "bn")
variable (C__law_kept:Known P w K mg base 1 "_law_kept" 2 vZ)
variable (lg:kA P w K mg base 1 "Lone" "word")
variable (jA:kA P w K mg base 1 "NoNet" "word")
variable (gS:kA P w K mg base 1 "BadBend" "column")
variable (gR:kA P w K mg base 1 "BadKeep" "place")
theorem gF:bI ["channel","name"] ["channel"] (bx (top 21)):=by walk_at "sc"
include T eC eD lg in
theorem R8(A:At K mg "refuse_lone" (top 21)):cm P w K mg base 3 "refuse_lone" 1 yc:=vT (T:=AV) 2 A gF (fun Qx f cf A outer s H E hr=>have hu:=hr.units;have nd:=gF.nd
 (nC (Ai PassesOwn.leaving rfl (kh (fO eC hr (bG (bA 0) bR))) (d8 1 nd)
    (nC (Aa (dQ (ic hu) (gD lG T.b_len boot_len (bG (fO eD hr (bG (bA 0) (bG (bA 1) bR))) bR)) bJ) (nC (AJ lg hr rfl rfl Ax (bA 1))) (Al fM)))))) Sr (by walk_at "bn")
variable (eF:cm P w K mg base 3 "refuse_lone" 1 yc)
theorem c6:bI ["channel","nets","names","name"] ["channel"] (bx (top 22)):=by walk_at "sc"
theorem Jy:(["name","width"]:List Str).Nodup:=by decide +kernel
theorem Jx:(["column","name"]:List Str).Nodup:=by decide +kernel
include T eC jA in
theorem S6(A:At K mg "refuse_names_without_net" (top 22)):cm P w K mg base 3 "refuse_names_without_net" 1 yo:=vT (T:=AX) 2 A c6 (fun Qx f cf A outer s H E hr=>have hu:=hr.units;have nd:=c6.nd
 (vW (Cc (dN 1 (fO eC hr (bG (bA 0) bR)) nd))
   (vW (Cc (dN 2 (bS dH (oW rfl (.of (N':=["name","width"]) (m:=[none,none]) (by kernel_rfl)) IG (kh (jx (bA 0))) (fun s3 H3 ex=>(qD rfl (iN (d8 0 Jy) (iN (d8 1 Jy) oS)))) (fun s3 H3 ex=>oX) (fun s3 H3 ex=>(bA 0))) (oW rfl (.of (N':=["column","name"]) (m:=[none,none]) (by kernel_rfl)) IG (kh (jx (bA 0))) (fun s3 H3 ex=>(qD rfl (iN (d8 0 Jx) (iN (d8 1 Jx) oS)))) (fun s3 H3 ex=>oX) (fun s3 H3 ex=>(bA 1)))) nd))
   (nC (Ai PassesOwn.leaving rfl (kh (bA 2)) (d8 3 nd)
    (nC (Aa (dQ (vF hu) (bA 3) (bA 1)) (nC (AJ jA hr rfl rfl Ax (bA 3))) (Al fM)))))))) S7 (by walk_at "bn")
variable (cj:cm P w K mg base 3 "refuse_names_without_net" 1 yo)
theorem gv:bI ["channel","column","name"] ["channel"] (bx (top 23)):=by walk_at "sc"
include T gm gS in
theorem SV(A:At K mg "refuse_bends" (top 23)):cm P w K mg base 4 "refuse_bends" 1 yv:=vT (T:=AU) 3 A gv (fun Qx f cf A outer s H E hr=>have hu:=hr.units;have nd:=gv.nd
 (nC (Ai PassesOwn.leaving rfl (kh (jx (bA 0))) (qD rfl (iN (d8 1 nd) (iN (d8 2 nd) oS)))
    (nC (Aa (vC (pD (fO gm hr (bG (bA 0) (bG (bA 1) (bG (bA 2) bR)))))) (nC (AJ gS hr rfl rfl Ax (bA 1))) (Al fM)))))) Se (by walk_at "bn")
variable (dZ:cm P w K mg base 4 "refuse_bends" 1 yv)
theorem gu:bI ["channel","place","keep"] ["channel"] (bx (top 25)):=by walk_at "sc"
include T gk gR in
theorem SU(A:At K mg "refuse_keeps" (top 25)):cm P w K mg base 3 "refuse_keeps" 1 yu:=vT (T:=AS) 2 A gu (fun Qx f cf A outer s H E hr=>have hu:=hr.units;have nd:=gu.nd
 (nC (Ai PassesOwn.leaving rfl (CY T.b_enumerate (bG (jx (bA 0)) bR)) (qD rfl (iN (d8 1 nd) (iN (d8 2 nd) oS)))
    (nC (Aa (vC (pD (fO gk hr (bG (gD lG T.b_len boot_len (bG (jx (bA 0)) bR)) (bG (bA 2) bR))))) (nC (AJ gR hr rfl rfl Ax (bA 1))) (Al fM)))))) Sd (by walk_at "bn")
variable (dY:cm P w K mg base 3 "refuse_keeps" 1 yu)
theorem fh:bI ["channel"] ["channel"] (bx (top 20)):=by walk_at "sc"
include T eF cj dZ dY in
theorem S0(A:At K mg "checked_channel" (top 20)):cm P w K mg base 5 "checked_channel" 1 rJ:=vT (T:=AO) 4 A fh (fun Qx f cf A outer s H E hr=>have hu:=hr.units;have nd:=fh.nd
 (vW (Aw (x8 eF hr rfl xI (xH (bG (bA 0) bR))))
   (vW (Aw (x8 cj hr rfl xI (xH (bG (bA 0) bR))))
   (vW (Aw (x8 dZ hr rfl xI (xH (bG (bA 0) bR))))
   (vW (Aw (x8 dY hr rfl xI (xH (bG (bA 0) bR))))
   (nC (Cc (fP sS)))))))) SS (by walk_at "bn")
variable (X_checked_channel:cm P w K mg base 5 "checked_channel" 1 rJ)
theorem g7:bI ["_law_which","_law_channel_here"] ["_law_which","_law_channel_here"] (bx (top 51)):=by walk_at "sc"
include T X_checked_channel in
theorem Sf(A:At K mg "_law_asked" (top 51)):cm P w K mg base 6 "_law_asked" 2 yb:=vT (T:=AL) 5 A g7 (fun Qx f cf A outer s H E hr=>have hu:=hr.units;have nd:=g7.nd
 (nC (NQ (x8 X_checked_channel hr rfl xI (xH (bG (bA 1) bR)))))) SA (by walk_at "bn")
variable (eV:cm P w K mg base 6 "_law_asked" 2 yb)
variable (d6:PySem.W.nsIn K mainGlobals "Lone"=some (some (.ref bP))) (dG:me K bP) (gP:PySem.W.exmOne K (.ref bP) (.ref bO)=some true) (gQ:kC K bP "word") (c7:PySem.W.nsIn K mainGlobals "NoNet"=some (some (.ref bK))) (cU:me K bK) (fT:PySem.W.exmOne K (.ref bK) (.ref bO)=some true) (fU:kC K bK "word") (cy:PySem.W.nsIn K mainGlobals "BadBend"=some (some (.ref bD))) (cA:me K bD) (ez:PySem.W.exmOne K (.ref bD) (.ref bO)=some true) (eB:kC K bD "column") (cx:PySem.W.nsIn K mainGlobals "BadKeep"=some (some (.ref bC))) (cz:me K bC) (ey:PySem.W.exmOne K (.ref bC) (.ref bO)=some true) (eA:kC K bC "place") (gi:mg "Lone"=some (.ref bP)) (e6:mg "NoNet"=some (.ref bK)) (dw:mg "BadBend"=some (.ref bD)) (dv:mg "BadKeep"=some (.ref bC)) (dJ:mg "WireError"=some (.ref bO)) (dn:mg "BadText"=some (.ref bX)) (cQ:mg "NoLayout"=some (.ref bU)) (dm:mg "NoOrder"=some (.ref bW)) (cP:mg "PinTaken"=some (.ref bT)) (eZ:mg "Taken"=some (.ref cu)) (cC:mg "BadDrawing"=some (.ref bM)) (du:mg "BadPile"=some (.ref bY)) (I1:PySem.W.kitAny K (.ref bP) [.ref bX,.ref bU,.ref bW,.ref bT,.ref cu]=some false) (I2:PySem.W.kitAny K (.ref bK) [.ref bX,.ref bU,.ref bW,.ref bT,.ref cu]=some false) (I3:PySem.W.kitAny K (.ref bD) [.ref bX,.ref bU,.ref bW,.ref bT,.ref cu]=some false) (I4:PySem.W.kitAny K (.ref bC) [.ref bX,.ref bU,.ref bW,.ref bT,.ref cu]=some false) (I5:PySem.W.kitOne K (.ref bP) (.type "ValueError")=some true) (I6:PySem.W.kitOne K (.ref bK) (.type "ValueError")=some true) (I7:PySem.W.kitOne K (.ref bD) (.type "ValueError")=some true) (I8:PySem.W.kitOne K (.ref bC) (.type "ValueError")=some true) (I9:PySem.W.kitAny K (.ref bP) [.ref bM,.ref bY]=some false) (t9:PySem.W.kitAny K (.ref bK) [.ref bM,.ref bY]=some false) (w8:PySem.W.kitAny K (.ref bD) [.ref bM,.ref bY]=some false) (w6:PySem.W.kitAny K (.ref bC) [.ref bM,.ref bY]=some false) (w5:PySem.W.kitOne K (.ref bP) (.ref bK)=some false) (wZ:PySem.W.kitOne K (.ref bK) (.ref bK)=some true) (wY:PySem.W.kitOne K (.ref bD) (.ref bK)=some false) (wX:PySem.W.kitOne K (.ref bC) (.ref bK)=some false) (wW:PySem.W.kitOne K (.ref bP) (.ref bP)=some true) (wV:PySem.W.kitOne K (.ref bK) (.ref bP)=some false) (wU:PySem.W.kitOne K (.ref bD) (.ref bP)=some false) (wR:PySem.W.kitOne K (.ref bC) (.ref bP)=some false) (wQ:PySem.W.kitOne K (.ref bP) (.ref bC)=some false) (wO:PySem.W.kitOne K (.ref bK) (.ref bC)=some false) (wN:PySem.W.kitOne K (.ref bD) (.ref bC)=some false) (wM:PySem.W.kitOne K (.ref bC) (.ref bC)=some true) (wL:PySem.W.kitOne K (.ref bP) (.ref bD)=some false) (wK:PySem.W.kitOne K (.ref bK) (.ref bD)=some false) (wJ:PySem.W.kitOne K (.ref bD) (.ref bD)=some true) (wI:PySem.W.kitOne K (.ref bC) (.ref bD)=some false)
omit T in
theorem sN{Q:Addr->Prop}{cn:Str}{C0:Addr}(N:PySem.W.nsIn K mainGlobals cn=some (some (.ref C0)))(h:Q C0):∀C,PySem.W.nsIn K mainGlobals cn=some (some (.ref C))->Q C:=fun C hC=>by rw[N] at hC;cases hC;exact h
include T eV d6 dG gP gQ c7 cU fT fU cy cA ez eB cx cz ey eA gi e6 dw dv dJ dn cQ dm cP eZ cC du I1 I2 I3 I4 I5 I6 I7 I8 I9 t9 w8 w6 w5 wZ wY wX wW wV wU wR wQ wO wN wM wL wK wJ wI in
theorem R7(A:At K mg "_law_refused" (top 52)):Known P w K mg base 7 "_law_refused" 2 wa:=jD 6 A gz (fun f cf A outer s H E hr=>have hu:=hr.units;have nd:=gz.nd
 have XM:∀cn∈[("Lone":Str),("NoNet":Str),("BadBend":Str),("BadKeep":Str)],∀C,PySem.W.nsIn K mainGlobals cn=some (some (.ref C))->PySem.W.exmOne K (.ref C) (.ref bO)=some true:=(ai.mpr ⟨sN (Q:=fun C=>PySem.W.exmOne K (.ref C) (.ref bO)=some true) d6 gP,(ai.mpr ⟨sN (Q:=fun C=>PySem.W.exmOne K (.ref C) (.ref bO)=some true) c7 fT,(ai.mpr ⟨sN (Q:=fun C=>PySem.W.exmOne K (.ref C) (.ref bO)=some true) cy ez,(ai.mpr ⟨sN (Q:=fun C=>PySem.W.exmOne K (.ref C) (.ref bO)=some true) cx ey,(fun _ h=>nomatch h)⟩)⟩)⟩)⟩)
 have nS:∀cn∈[("Lone":Str),("NoNet":Str)],∀C,PySem.W.nsIn K mainGlobals cn=some (some (.ref C))->kC K C "word":=(ai.mpr ⟨sN (Q:=fun C=>kC K C "word") d6 gQ,(ai.mpr ⟨sN (Q:=fun C=>kC K C "word") c7 fU,(fun _ h=>nomatch h)⟩)⟩)
 have oE:∀cn∈[("BadBend":Str)],∀C,PySem.W.nsIn K mainGlobals cn=some (some (.ref C))->kC K C "column":=(ai.mpr ⟨sN (Q:=fun C=>kC K C "column") cy eB,(fun _ h=>nomatch h)⟩)
 have qm:∀cn∈[("BadKeep":Str)],∀C,PySem.W.nsIn K mainGlobals cn=some (some (.ref C))->kC K C "place":=(ai.mpr ⟨sN (Q:=fun C=>kC K C "place") cx eA,(fun _ h=>nomatch h)⟩)
 (ck (dN 2 nX nd)
   (ck (NK 3 eV hr dJ XM rfl nd (bG (bA 0) (bG (bA 1) bR)) (fun a=>(cX (dN 2 (bA 3) nd))))
   (ck (f6 (ui (pD (ur (uu 2) (sX (cs:=[("BadText",bX,_),("NoLayout",bU,_),("NoOrder",bW,_),("PinTaken",bT,_),("Taken",cu,_)]) (b:=false) (bA 2) dG d6 T.b_isinstance (ai.mpr ⟨⟨dn,by rfl,show(("BadText":Str)==("__debug__":Str))=false by decide⟩,(ai.mpr ⟨⟨cQ,by rfl,show(("NoLayout":Str)==("__debug__":Str))=false by decide⟩,(ai.mpr ⟨⟨dm,by rfl,show(("NoOrder":Str)==("__debug__":Str))=false by decide⟩,(ai.mpr ⟨⟨cP,by rfl,show(("PinTaken":Str)==("__debug__":Str))=false by decide⟩,(ai.mpr ⟨⟨eZ,by rfl,show(("Taken":Str)==("__debug__":Str))=false by decide⟩,(fun _ h=>nomatch h)⟩)⟩)⟩)⟩)⟩) I1 (show 5<=sizeLine by decide +kernel) (by intro es h;obtain⟨l,e⟩:=h;subst e;rcases l with _ | _ | _ | _ | _ | _ | _<;>rfl)) (sX (cs:=[("BadText",bX,_),("NoLayout",bU,_),("NoOrder",bW,_),("PinTaken",bT,_),("Taken",cu,_)]) (b:=false) (bA 2) cU c7 T.b_isinstance (ai.mpr ⟨⟨dn,by rfl,show(("BadText":Str)==("__debug__":Str))=false by decide⟩,(ai.mpr ⟨⟨cQ,by rfl,show(("NoLayout":Str)==("__debug__":Str))=false by decide⟩,(ai.mpr ⟨⟨dm,by rfl,show(("NoOrder":Str)==("__debug__":Str))=false by decide⟩,(ai.mpr ⟨⟨cP,by rfl,show(("PinTaken":Str)==("__debug__":Str))=false by decide⟩,(ai.mpr ⟨⟨eZ,by rfl,show(("Taken":Str)==("__debug__":Str))=false by decide⟩,(fun _ h=>nomatch h)⟩)⟩)⟩)⟩)⟩) I2 (show 5<=sizeLine by decide +kernel) (by intro es h;obtain⟨l,e⟩:=h;subst e;rcases l with _ | _ | _ | _ | _ | _ | _<;>rfl)) (sX (cs:=[("BadText",bX,_),("NoLayout",bU,_),("NoOrder",bW,_),("PinTaken",bT,_),("Taken",cu,_)]) (b:=false) (bA 2) cA cy T.b_isinstance (ai.mpr ⟨⟨dn,by rfl,show(("BadText":Str)==("__debug__":Str))=false by decide⟩,(ai.mpr ⟨⟨cQ,by rfl,show(("NoLayout":Str)==("__debug__":Str))=false by decide⟩,(ai.mpr ⟨⟨dm,by rfl,show(("NoOrder":Str)==("__debug__":Str))=false by decide⟩,(ai.mpr ⟨⟨cP,by rfl,show(("PinTaken":Str)==("__debug__":Str))=false by decide⟩,(ai.mpr ⟨⟨eZ,by rfl,show(("Taken":Str)==("__debug__":Str))=false by decide⟩,(fun _ h=>nomatch h)⟩)⟩)⟩)⟩)⟩) I3 (show 5<=sizeLine by decide +kernel) (by intro es h;obtain⟨l,e⟩:=h;subst e;rcases l with _ | _ | _ | _ | _ | _ | _<;>rfl)) (sX (cs:=[("BadText",bX,_),("NoLayout",bU,_),("NoOrder",bW,_),("PinTaken",bT,_),("Taken",cu,_)]) (b:=false) (bA 2) cz cx T.b_isinstance (ai.mpr ⟨⟨dn,by rfl,show(("BadText":Str)==("__debug__":Str))=false by decide⟩,(ai.mpr ⟨⟨cQ,by rfl,show(("NoLayout":Str)==("__debug__":Str))=false by decide⟩,(ai.mpr ⟨⟨dm,by rfl,show(("NoOrder":Str)==("__debug__":Str))=false by decide⟩,(ai.mpr ⟨⟨cP,by rfl,show(("PinTaken":Str)==("__debug__":Str))=false by decide⟩,(ai.mpr ⟨⟨eZ,by rfl,show(("Taken":Str)==("__debug__":Str))=false by decide⟩,(fun _ h=>nomatch h)⟩)⟩)⟩)⟩)⟩) I4 (show 5<=sizeLine by decide +kernel) (by intro es h;obtain⟨l,e⟩:=h;subst e;rcases l with _ | _ | _ | _ | _ | _ | _<;>rfl)))) (vE (vC (pD (ur (uu 2) (Am (b:=true) (bA 2) dG d6 T.b_isinstance T.b_ValueError (by decide +kernel) I5) (Am (b:=true) (bA 2) cU c7 T.b_isinstance T.b_ValueError (by decide +kernel) I6) (Am (b:=true) (bA 2) cA cy T.b_isinstance T.b_ValueError (by decide +kernel) I7) (Am (b:=true) (bA 2) cz cx T.b_isinstance T.b_ValueError (by decide +kernel) I8)))))).pb (cX (fP (gY (bG fN (bG bJ bR))))) fM)
   (ck (f6 (pD (ur (uu 2) (sX (cs:=[("BadDrawing",bM,_),("BadPile",bY,_)]) (b:=false) (bA 2) dG d6 T.b_isinstance (ai.mpr ⟨⟨cC,by rfl,show(("BadDrawing":Str)==("__debug__":Str))=false by decide⟩,(ai.mpr ⟨⟨du,by rfl,show(("BadPile":Str)==("__debug__":Str))=false by decide⟩,(fun _ h=>nomatch h)⟩)⟩) I9 (show 2<=sizeLine by decide +kernel) (by intro es h;obtain⟨l,e⟩:=h;subst e;rcases l with _ | _ | _ | _<;>rfl)) (sX (cs:=[("BadDrawing",bM,_),("BadPile",bY,_)]) (b:=false) (bA 2) cU c7 T.b_isinstance (ai.mpr ⟨⟨cC,by rfl,show(("BadDrawing":Str)==("__debug__":Str))=false by decide⟩,(ai.mpr ⟨⟨du,by rfl,show(("BadPile":Str)==("__debug__":Str))=false by decide⟩,(fun _ h=>nomatch h)⟩)⟩) t9 (show 2<=sizeLine by decide +kernel) (by intro es h;obtain⟨l,e⟩:=h;subst e;rcases l with _ | _ | _ | _<;>rfl)) (sX (cs:=[("BadDrawing",bM,_),("BadPile",bY,_)]) (b:=false) (bA 2) cA cy T.b_isinstance (ai.mpr ⟨⟨cC,by rfl,show(("BadDrawing":Str)==("__debug__":Str))=false by decide⟩,(ai.mpr ⟨⟨du,by rfl,show(("BadPile":Str)==("__debug__":Str))=false by decide⟩,(fun _ h=>nomatch h)⟩)⟩) w8 (show 2<=sizeLine by decide +kernel) (by intro es h;obtain⟨l,e⟩:=h;subst e;rcases l with _ | _ | _ | _<;>rfl)) (sX (cs:=[("BadDrawing",bM,_),("BadPile",bY,_)]) (b:=false) (bA 2) cz cx T.b_isinstance (ai.mpr ⟨⟨cC,by rfl,show(("BadDrawing":Str)==("__debug__":Str))=false by decide⟩,(ai.mpr ⟨⟨du,by rfl,show(("BadPile":Str)==("__debug__":Str))=false by decide⟩,(fun _ h=>nomatch h)⟩)⟩) w6 (show 2<=sizeLine by decide +kernel) (by intro es h;obtain⟨l,e⟩:=h;subst e;rcases l with _ | _ | _ | _<;>rfl)))) (cX (fP (gY (bG fN (bG bJ bR))))) fM)
   (ck (dN 4 (gr (bG (ur (uu 2) (mJ (b:=true) (bA 2) dG d6 T.b_isinstance gi wW) (mJ (b:=false) (bA 2) cU c7 T.b_isinstance gi wV) (mJ (b:=false) (bA 2) cA cy T.b_isinstance gi wU) (mJ (b:=false) (bA 2) cz cx T.b_isinstance gi wR)) (bG (ur (uu 2) (mJ (b:=false) (bA 2) dG d6 T.b_isinstance e6 w5) (mJ (b:=true) (bA 2) cU c7 T.b_isinstance e6 wZ) (mJ (b:=false) (bA 2) cA cy T.b_isinstance e6 wY) (mJ (b:=false) (bA 2) cz cx T.b_isinstance e6 wX)) bR))) nd)
   (ck (dN 4 (bS dH (bA 4) (gr (bG (ur (uu 2) (mJ (b:=false) (bA 2) dG d6 T.b_isinstance dw wL) (mJ (b:=false) (bA 2) cU c7 T.b_isinstance dw wK) (mJ (b:=true) (bA 2) cA cy T.b_isinstance dw wJ) (mJ (b:=false) (bA 2) cz cx T.b_isinstance dw wI)) (bG (ur (uu 2) (mJ (b:=false) (bA 2) dG d6 T.b_isinstance dv wQ) (mJ (b:=false) (bA 2) cU c7 T.b_isinstance dv wO) (mJ (b:=false) (bA 2) cA cy T.b_isinstance dv wN) (mJ (b:=true) (bA 2) cz cx T.b_isinstance dv wM)) bR)))) nd)
   (ck (f6 (dQ (BL hu) (HD (HB hu) (.inl rfl) PySem.F.plainAttrs_list PySem.F.slot_list_count PySem.F.type_list_count (bA 4) (bG sS bR)) bJ) (cX (fP (gY (bG fN (bG bJ bR))))) fM)
   (ck (f6 (pD (cV (bA 4) bJ)) (cX (fP (gY (bG fN (bG (Ak (ok:=["Lone","NoNet"]) (bA 2) nS) bR))))) fM)
   (ck (f6 (pD (cV (bA 4) bJ)) (cX (fP (gY (bG fN (bG (Ak (ok:=["Lone","NoNet"]) (bA 2) nS) bR))))) fM)
   (ck (f6 (pD (cV (bA 4) bJ)) (cX (fP (gY (bG fN (bG (Ak (ok:=["BadBend"]) (bA 2) oE) bR))))) fM)
   (cX (fP (gY (bG fN (bG (Ak (ok:=["BadKeep"]) (bA 2) qm) bR)))))))))))))))) Sq (by walk_at "bn")
variable (C__law_refused:Known P w K mg base 7 "_law_refused" 2 wa)
include T C__law_mix C__law_channel C__law_faulty C__law_strangers C__law_made C__law_kept C__law_refused X_checked_channel in
theorem LD  {f:Addr} (cf:Value) (A:Around) (outer:List Env) (s:Shared) (H:Hp) (E:XK) (hr:cT 7 (A.deeper (envOfC "law" (bx (top 53)) s.heap.objs.size f cf))) :
  md (jl hZ P w K mg base ["_law_script","_law_lists","_law_mix_here","_law_bits","_law_lots","_law_due","_law_good","_law_bad"] "law" (bx (top 53)) f cf A outer s H E).kN (cq (top 53)) xn:=
 have hu:=hr.units;have nd:=pM.nd
 (ck (dN 1 (fO C__law_channel hr (bG (bA 0) (bG bJ bR))) nd)
   (ck (dN 2 (fO C__law_mix hr (bG (gD (vo rfl) T.b_sum boot_sum (bG (kK (bA 0) mL (jz bJ)) bR)) (bG bJ bR))) nd)
   (ck (dN 3 (fO C__law_mix hr (bG (gD (vo rfl) T.b_sum boot_sum (bG (kK (bA 0) (jz bJ) (jz bJ)) bR)) (bG bJ bR))) nd)
   (ck (vB (fO C__law_faulty hr (bG (bA 1) (bG (fO C__law_strangers hr (bG (bA 0) bR)) (bG (bA 3) (bG (bA 2) bR))))) (qD rfl (iN (d8 4 nd) (iN (d8 5 nd) oS))))
   (ck (dN 6 (fO C__law_made hr (bG (bA 1) bR)) nd)
   (ck (f6 (ui (dQ Nf (Dm X_checked_channel hr (bG (bA 6) bR)) sS) (vE (vC (pD (fO C__law_kept hr (bG (bA 6) (bG (bA 1) bR))))))).pb (cX (fP sS)) fM)
   (ck (dN 7 (fO C__law_made hr (bG (bA 4) bR)) nd)
   (ck (f6 (dQ (ic hu) (gD lG T.b_len boot_len (bG (bA 5) bR)) bJ) (cX (fP (rB Gn (Dm X_checked_channel hr (bG (bA 7) bR)) sS))) fM)
   (ck (f6 (ui (dQ (BL hu) (fO C__law_refused hr (bG bJ (bG (bA 7) bR))) (cV (bA 5) bJ)) (vE (vC (pD (fO C__law_kept hr (bG (bA 7) (bG (bA 4) bR))))))).pb (cX (fP sS)) fM)
   (cX (fP (Ck (rB Gn (Dm X_checked_channel hr (bG (fO C__law_made hr (bG (bA 1) bR)) bR)) sS) (Ac (rB (ic hu) (fO C__law_refused hr (bG bJ (bG (bA 7) bR))) (cV (bA 5) bJ)))))))))))))))
theorem uK{fa:Addr}(T:Txt K mg)(jb:BG K mg "Channel" "Channel.__init__" gL ["top","bottom","left","right","wide","bends","keeps"])(AA:At K mg "nets_of" (top 15)/\At K mg "ends_of" (top 14)/\At K mg "column_of" (top 16)/\At K mg "stretch_of" (top 17)/\At K mg "can_bend" (top 24)/\At K mg "can_keep" (top 26)/\At K mg "_law_stem" (top 30)/\At K mg "_law_named" (top 31)/\At K mg "_law_mix" (top 32)/\At K mg "_law_pins" (top 33)/\At K mg "_law_open" (top 38)/\At K mg "_law_many" (top 34)/\At K mg "_law_stretch" (top 35)/\At K mg "_law_bends" (top 36)/\At K mg "_law_keeps" (top 37)/\At K mg "_law_channel" (top 39)/\At K mg "_law_bad_column" (top 43)/\At K mg "_law_keep" (top 44)/\At K mg "_law_faulty" (top 50)/\At K mg "_law_strangers" (top 42)/\At K mg "_law_made" (top 40)/\At K mg "_law_kept" (top 41)/\At K mg "_law_refused" (top 52)/\At K mg "law" (top 53)/\True)  (nq:sI K mg "Lone" "Lone.__init__" "word" mS) (lE:sI K mg "NoNet" "NoNet.__init__" "word" kS) (jd:sI K mg "BadBend" "BadBend.__init__" "column" iV) (jc:sI K mg "BadKeep" "BadKeep.__init__" "place" iU) (kD:At K mg "refuse_lone" (top 21)) (fm:At K mg "refuse_names_without_net" (top 22)) (jS:At K mg "refuse_bends" (top 23)) (jR:At K mg "refuse_keeps" (top 25)) (iL:At K mg "checked_channel" (top 20)) (lD:At K mg "_law_asked" (top 51)) (mv:At K mg "_law_lone" (top 45)) (jU:At K mg "_law_strange" (top 46)) (gK:At K mg "_law_strange_bends" (top 47)) (ja:At K mg "_law_bad_bends" (top 48)) (i9:At K mg "_law_bad_keeps" (top 49)) (d6:PySem.W.nsIn K mainGlobals "Lone"=some (some (.ref bP))) (dG:me K bP) (gP:PySem.W.exmOne K (.ref bP) (.ref bO)=some true) (gQ:kC K bP "word") (c7:PySem.W.nsIn K mainGlobals "NoNet"=some (some (.ref bK))) (cU:me K bK) (fT:PySem.W.exmOne K (.ref bK) (.ref bO)=some true) (fU:kC K bK "word") (cy:PySem.W.nsIn K mainGlobals "BadBend"=some (some (.ref bD))) (cA:me K bD) (ez:PySem.W.exmOne K (.ref bD) (.ref bO)=some true) (eB:kC K bD "column") (cx:PySem.W.nsIn K mainGlobals "BadKeep"=some (some (.ref bC))) (cz:me K bC) (ey:PySem.W.exmOne K (.ref bC) (.ref bO)=some true) (eA:kC K bC "place") (gi:mg "Lone"=some (.ref bP)) (e6:mg "NoNet"=some (.ref bK)) (dw:mg "BadBend"=some (.ref bD)) (dv:mg "BadKeep"=some (.ref bC)) (dJ:mg "WireError"=some (.ref bO)) (dn:mg "BadText"=some (.ref bX)) (cQ:mg "NoLayout"=some (.ref bU)) (dm:mg "NoOrder"=some (.ref bW)) (cP:mg "PinTaken"=some (.ref bT)) (eZ:mg "Taken"=some (.ref cu)) (cC:mg "BadDrawing"=some (.ref bM)) (du:mg "BadPile"=some (.ref bY)) (I1:PySem.W.kitAny K (.ref bP) [.ref bX,.ref bU,.ref bW,.ref bT,.ref cu]=some false) (I2:PySem.W.kitAny K (.ref bK) [.ref bX,.ref bU,.ref bW,.ref bT,.ref cu]=some false) (I3:PySem.W.kitAny K (.ref bD) [.ref bX,.ref bU,.ref bW,.ref bT,.ref cu]=some false) (I4:PySem.W.kitAny K (.ref bC) [.ref bX,.ref bU,.ref bW,.ref bT,.ref cu]=some false) (I5:PySem.W.kitOne K (.ref bP) (.type "ValueError")=some true) (I6:PySem.W.kitOne K (.ref bK) (.type "ValueError")=some true) (I7:PySem.W.kitOne K (.ref bD) (.type "ValueError")=some true) (I8:PySem.W.kitOne K (.ref bC) (.type "ValueError")=some true) (I9:PySem.W.kitAny K (.ref bP) [.ref bM,.ref bY]=some false) (t9:PySem.W.kitAny K (.ref bK) [.ref bM,.ref bY]=some false) (w8:PySem.W.kitAny K (.ref bD) [.ref bM,.ref bY]=some false) (w6:PySem.W.kitAny K (.ref bC) [.ref bM,.ref bY]=some false) (w5:PySem.W.kitOne K (.ref bP) (.ref bK)=some false) (wZ:PySem.W.kitOne K (.ref bK) (.ref bK)=some true) (wY:PySem.W.kitOne K (.ref bD) (.ref bK)=some false) (wX:PySem.W.kitOne K (.ref bC) (.ref bK)=some false) (wW:PySem.W.kitOne K (.ref bP) (.ref bP)=some true) (wV:PySem.W.kitOne K (.ref bK) (.ref bP)=some false) (wU:PySem.W.kitOne K (.ref bD) (.ref bP)=some false) (wR:PySem.W.kitOne K (.ref bC) (.ref bP)=some false) (wQ:PySem.W.kitOne K (.ref bP) (.ref bC)=some false) (wO:PySem.W.kitOne K (.ref bK) (.ref bC)=some false) (wN:PySem.W.kitOne K (.ref bD) (.ref bC)=some false) (wM:PySem.W.kitOne K (.ref bC) (.ref bC)=some true) (wL:PySem.W.kitOne K (.ref bP) (.ref bD)=some false) (wK:PySem.W.kitOne K (.ref bK) (.ref bD)=some false) (wJ:PySem.W.kitOne K (.ref bD) (.ref bD)=some true) (wI:PySem.W.kitOne K (.ref bC) (.ref bD)=some false) (sd:mg "law"=some (.ref fa)):∃fd:FuncData,(∀(s:Shared) (u:Value),BindsTo s fd ⟨[u],[]⟩ [("_law_script",u)])/\∀base:Heap,fW P w K mg base hZ 8 fa fd ["_law_script"] (wG K 1 (BR 63)):=by
 obtain⟨oJ,oK,mf,lx,ni,nh,mh,ly,nj,mi,mj,ml,jT,lC,lz,jW,iM,mB,kE,i8,mq,mw,jV,zL,_⟩:=AA;refine MV (T:=fun _=>xn) zL sd pM (by walk_at "bn") (fun base f cf A outer s H E hr=>?_) (fun _=>N5);have gV:lq P w K mg base 1 "Channel" 7 xW:=Rg jb T;have eC:Known P w K mg base 1 "nets_of" 1 vR:=Rf T oJ;have eD:Known P w K mg base 1 "ends_of" 2 vS:=Rc T oK;have fJ:Known P w K mg base 1 "column_of" 2 yk:=R1 T mf;have e7:Known P w K mg base 2 "stretch_of" 2 yg:=Sw T eD fJ lx;have gm:Known P w K mg base 3 "can_bend" 3 xV:=Rv T e7 ni;have gk:Known P w K mg base 1 "can_keep" 2 xU:=Ru T nh;have fK:Known P w K mg base 1 "_law_stem" 2 yn:=R0 T mh;have cR:Known P w K mg base 2 "_law_named" 1 vX:=Sv T fK ly;have C__law_mix:Known P w K mg base 1 "_law_mix" 2 oY:=Rt T nj;have fL:Known P w K mg base 2 "_law_pins" 4 ym:=RZ T C__law_mix mi;have eJ:Known P w K mg base 1 "_law_open" 2 v7:=RY T mj;have eK:Known P w K mg base 1 "_law_many" 5 v8:=RX T ml;have cD:Known P w K mg base 1 "_law_stretch" 5 wb:=Sa T jT;have e9:Known P w K mg base 2 "_law_bends" 4 yi:=RN T C__law_mix cD lC;have e8:Known P w K mg base 2 "_law_keeps" 3 yh:=RM T C__law_mix lz;have C__law_channel:Known P w K mg base 3 "_law_channel" 2 yd:=R9 T cR C__law_mix fL eJ eK e9 e8 jW;have c9:Known P w K mg base 2 "_law_bad_column" 3 yq:=SR T cD iM;have eN:Known P w K mg base 1 "_law_keep" 2 vY:=RW T mB;have fG:cH P w K mg base 1 "_law_lone" 2 yf:=RL T mv;have d0:cH P w K mg base 1 "_law_strange" 2 ye:=SW T jU;have cG:cH P w K mg base 1 "_law_strange_bends" 2 yt:=S5 T gK;have di:cH P w K mg base 3 "_law_bad_bends" 2 yp:=SQ T c9 ja;have dh:cH P w K mg base 2 "_law_bad_keeps" 1 yr:=SN T eN i9;have C__law_faulty:Known P w K mg base 4 "_law_faulty" 4 ya:=Sg T fG d0 cG di dh kE;have C__law_strangers:Known P w K mg base 3 "_law_strangers" 1 yw:=SE T cR i8;have C__law_made:Known P w K mg base 3 "_law_made" 1 uw:=RV T gV mq;have C__law_kept:Known P w K mg base 1 "_law_kept" 2 vZ:=RH T mw;have lg:kA P w K mg base 1 "Lone" "word":=Aj nq NZ rfl (by walk_at "bn");have jA:kA P w K mg base 1 "NoNet" "word":=Aj lE N4 rfl (by walk_at "bn");have gS:kA P w K mg base 1 "BadBend" "column":=Aj jd Qa rfl (by walk_at "bn");have gR:kA P w K mg base 1 "BadKeep" "place":=Aj jc P9 rfl (by walk_at "bn");have eF:cm P w K mg base 3 "refuse_lone" 1 yc:=R8 T eC eD lg kD;have cj:cm P w K mg base 3 "refuse_names_without_net" 1 yo:=S6 T eC jA fm;have dZ:cm P w K mg base 4 "refuse_bends" 1 yv:=SV T gm gS jS;have dY:cm P w K mg base 3 "refuse_keeps" 1 yu:=SU T gk gR jR;have X_checked_channel:cm P w K mg base 5 "checked_channel" 1 rJ:=S0 T eF cj dZ dY iL;have eV:cm P w K mg base 6 "_law_asked" 2 yb:=Sf T X_checked_channel lD;have C__law_refused:Known P w K mg base 7 "_law_refused" 2 wa:=R7 T eV d6 dG gP gQ c7 cU fT fU cy cA ez eB cx cz ey eA gi e6 dw dv dJ dn cQ dm cP eZ cC du I1 I2 I3 I4 I5 I6 I7 I8 I9 t9 w8 w6 w5 wZ wY wX wW wV wU wR wQ wO wN wM wL wK wJ wI jV;exact LD (T:=T) (C__law_mix:=C__law_mix) (C__law_channel:=C__law_channel) (C__law_faulty:=C__law_faulty) (C__law_strangers:=C__law_strangers) (C__law_made:=C__law_made) (C__law_kept:=C__law_kept) (C__law_refused:=C__law_refused) (X_checked_channel:=X_checked_channel) cf A outer s H E hr
end
end Wc
open PySem PySem.W PyProof.Rows
theorem PySem.W.Fast.te6456928710015564804:True:=trivial
noncomputable def PySem.W.Fast.tw2021209619274105644:PySem.Program:=PySem.Challenge.pw_wirechannel_k12_channels_refused
theorem PySem.W.Fast.te2021209619274105644:PySem.Challenge.pw_wirechannel_k12_channels_refused=PySem.W.Fast.tw2021209619274105644:=rfl
noncomputable def PySem.W.Fast.tw8401054430657630277:List PySem.Stmt:=(PySem.Challenge.pw_wirechannel_k12_channels_refused.main.body.drop 0).take 2
theorem PySem.W.Fast.te8401054430657630277:(PySem.Challenge.pw_wirechannel_k12_channels_refused.main.body.drop 0).take 2=PySem.W.Fast.tw8401054430657630277:=rfl
noncomputable def PySem.W.Fast.tw4998727352415793492:List PySem.Stmt:=(PySem.Challenge.pw_wirechannel_k12_channels_refused.main.body.drop 2).take 1
theorem PySem.W.Fast.te4998727352415793492:(PySem.Challenge.pw_wirechannel_k12_channels_refused.main.body.drop 2).take 1=PySem.W.Fast.tw4998727352415793492:=rfl
noncomputable def PySem.W.Fast.tw11406437837228253015:List PySem.Stmt:=(PySem.Challenge.pw_wirechannel_k12_channels_refused.main.body.drop 3).take 1
theorem PySem.W.Fast.te11406437837228253015:(PySem.Challenge.pw_wirechannel_k12_channels_refused.main.body.drop 3).take 1=PySem.W.Fast.tw11406437837228253015:=rfl
noncomputable def PySem.W.Fast.tw7779073962350270289:List PySem.Stmt:=(PySem.Challenge.pw_wirechannel_k12_channels_refused.main.body.drop 4).take 1
theorem PySem.W.Fast.te7779073962350270289:(PySem.Challenge.pw_wirechannel_k12_channels_refused.main.body.drop 4).take 1=PySem.W.Fast.tw7779073962350270289:=rfl
noncomputable def PySem.W.Fast.tw28417873193602099:List PySem.Stmt:=(PySem.Challenge.pw_wirechannel_k12_channels_refused.main.body.drop 5).take 1
theorem PySem.W.Fast.te28417873193602099:(PySem.Challenge.pw_wirechannel_k12_channels_refused.main.body.drop 5).take 1=PySem.W.Fast.tw28417873193602099:=rfl
noncomputable def PySem.W.Fast.tw17606376977370007070:List PySem.Stmt:=(PySem.Challenge.pw_wirechannel_k12_channels_refused.main.body.drop 6).take 1
theorem PySem.W.Fast.te17606376977370007070:(PySem.Challenge.pw_wirechannel_k12_channels_refused.main.body.drop 6).take 1=PySem.W.Fast.tw17606376977370007070:=rfl
noncomputable def PySem.W.Fast.tw13417024877548694018:List PySem.Stmt:=(PySem.Challenge.pw_wirechannel_k12_channels_refused.main.body.drop 7).take 1
theorem PySem.W.Fast.te13417024877548694018:(PySem.Challenge.pw_wirechannel_k12_channels_refused.main.body.drop 7).take 1=PySem.W.Fast.tw13417024877548694018:=rfl
noncomputable def PySem.W.Fast.tw5793162293156149336:List PySem.Stmt:=(PySem.Challenge.pw_wirechannel_k12_channels_refused.main.body.drop 8).take 1
theorem PySem.W.Fast.te5793162293156149336:(PySem.Challenge.pw_wirechannel_k12_channels_refused.main.body.drop 8).take 1=PySem.W.Fast.tw5793162293156149336:=rfl
noncomputable def PySem.W.Fast.tw701542681011742806:List PySem.Stmt:=(PySem.Challenge.pw_wirechannel_k12_channels_refused.main.body.drop 9).take 1
theorem PySem.W.Fast.te701542681011742806:(PySem.Challenge.pw_wirechannel_k12_channels_refused.main.body.drop 9).take 1=PySem.W.Fast.tw701542681011742806:=rfl
noncomputable def PySem.W.Fast.tw4378255825736809687:List PySem.Stmt:=(PySem.Challenge.pw_wirechannel_k12_channels_refused.main.body.drop 10).take 1
theorem PySem.W.Fast.te4378255825736809687:(PySem.Challenge.pw_wirechannel_k12_channels_refused.main.body.drop 10).take 1=PySem.W.Fast.tw4378255825736809687:=rfl
noncomputable def PySem.W.Fast.tw4499576763230930439:List PySem.Stmt:=(PySem.Challenge.pw_wirechannel_k12_channels_refused.main.body.drop 11).take 1
theorem PySem.W.Fast.te4499576763230930439:(PySem.Challenge.pw_wirechannel_k12_channels_refused.main.body.drop 11).take 1=PySem.W.Fast.tw4499576763230930439:=rfl
noncomputable def PySem.W.Fast.tw16094950644126834131:List PySem.Stmt:=(PySem.Challenge.pw_wirechannel_k12_channels_refused.main.body.drop 12).take 9
theorem PySem.W.Fast.te16094950644126834131:(PySem.Challenge.pw_wirechannel_k12_channels_refused.main.body.drop 12).take 9=PySem.W.Fast.tw16094950644126834131:=rfl
noncomputable def PySem.W.Fast.tw3688408610677437007:List PySem.Stmt:=(PySem.Challenge.pw_wirechannel_k12_channels_refused.main.body.drop 21).take 7
theorem PySem.W.Fast.te3688408610677437007:(PySem.Challenge.pw_wirechannel_k12_channels_refused.main.body.drop 21).take 7=PySem.W.Fast.tw3688408610677437007:=rfl
noncomputable def PySem.W.Fast.tw9111270977285710972:List PySem.Stmt:=(PySem.Challenge.pw_wirechannel_k12_channels_refused.main.body.drop 28).take 6
theorem PySem.W.Fast.te9111270977285710972:(PySem.Challenge.pw_wirechannel_k12_channels_refused.main.body.drop 28).take 6=PySem.W.Fast.tw9111270977285710972:=rfl
noncomputable def PySem.W.Fast.tw15915066299809609896:List PySem.Stmt:=(PySem.Challenge.pw_wirechannel_k12_channels_refused.main.body.drop 34).take 13
theorem PySem.W.Fast.te15915066299809609896:(PySem.Challenge.pw_wirechannel_k12_channels_refused.main.body.drop 34).take 13=PySem.W.Fast.tw15915066299809609896:=rfl
noncomputable def PySem.W.Fast.tw7025039357599809493:List PySem.Stmt:=(PySem.Challenge.pw_wirechannel_k12_channels_refused.main.body.drop 47).take 7
theorem PySem.W.Fast.te7025039357599809493:(PySem.Challenge.pw_wirechannel_k12_channels_refused.main.body.drop 47).take 7=PySem.W.Fast.tw7025039357599809493:=rfl
theorem PySem.W.Fast.tw7639240088831299388:True:=trivial
theorem PySem.W.Fast.tw9464571090487123569:True:=trivial
theorem PySem.W.Fast.tw14512694205700816859:True:=trivial
theorem PySem.W.Fast.tw4073904870341237765:True:=trivial
theorem PySem.W.Fast.tw13946067769218153199:True:=trivial
theorem PySem.W.Fast.tw14893547670391121608:True:=trivial
theorem PySem.W.Fast.tw5430365441387425098:True:=trivial
theorem PySem.W.Fast.tw14962477733715425473:True:=trivial
theorem PySem.W.Fast.tw8668941713178405407:True:=trivial
theorem PySem.W.Fast.tw10112181215194270756:True:=trivial
theorem PySem.W.Fast.tw17561781017847357701:True:=trivial
theorem PySem.W.Fast.tw10367908343020185012:True:=trivial
theorem PySem.W.Fast.tw2327770867132013835:True:=trivial
theorem PySem.W.Fast.tw12971739598720136848:True:=trivial
theorem PySem.W.Fast.tw10524587329654663049:True:=trivial
theorem PySem.W.Fast.tw17800643254849554856:True:=trivial
theorem PySem.W.Fast.tw15660019161523199994:True:=trivial
theorem PySem.W.Fast.tw9778486359968540708:True:=trivial
theorem PySem.W.Fast.tw11282217591992337003:True:=trivial
theorem PySem.W.Fast.tw12144160284609040282:True:=trivial
theorem PySem.W.Fast.tw15709864100803560084:True:=trivial
theorem PySem.W.Fast.tw13159044093903131023:True:=trivial
theorem PySem.W.Fast.tw3440295415961568762:True:=trivial
theorem PySem.W.Fast.tw18422781509403906915:True:=trivial
theorem PySem.W.Fast.tw17799343904628926566:True:=trivial
theorem PySem.W.Fast.tw15031160616806640379:True:=trivial
theorem PySem.W.Fast.tw11065269082343652854:True:=trivial
theorem PySem.W.Fast.tw16300960141890229749:True:=trivial
theorem PySem.W.Fast.tw13348964093319254598:True:=trivial
theorem PySem.W.Fast.tw5803488295666078696:True:=trivial
theorem PySem.W.Fast.tw526687150788479929:True:=trivial
theorem PySem.W.Fast.tw8784847127157181762:True:=trivial
theorem PySem.W.Fast.tw14554622883315367275:True:=trivial
theorem PySem.W.Fast.tw14122073641548959553:True:=trivial
theorem PySem.W.Fast.tw10575086729553315903:True:=trivial
theorem PySem.W.Fast.tw18144177491225637563:True:=trivial
theorem PySem.W.Fast.tw2543494134353510537:True:=trivial
theorem PySem.W.Fast.tw4046640951840178267:True:=trivial
theorem PySem.W.Fast.tw7727117565478191409:True:=trivial
theorem PySem.W.Fast.tw1316757693258605762:True:=trivial
theorem PySem.W.Fast.tw8933608358617861902:True:=trivial
theorem PySem.W.Fast.tw10920076192004013274:True:=trivial
theorem PySem.W.Fast.tw15789535372683129831:True:=trivial
theorem PySem.W.Fast.tw8010647166422787413:True:=trivial
theorem PySem.W.Fast.tw2351294001070231586:True:=trivial
theorem PySem.W.Fast.tw4686637475074628086:True:=trivial
theorem PySem.W.Fast.tw4638626753981047699:True:=trivial
theorem PySem.W.Fast.tw17278708319820964587:True:=trivial
theorem PySem.W.Fast.tw5737314526958158605:True:=trivial
theorem PySem.W.Fast.tw1962173995246835835:True:=trivial
theorem PySem.W.Fast.tw11353512230684732329:True:=trivial
theorem PySem.W.Fast.tw14289125153065424041:True:=trivial
theorem PySem.W.Fast.tw11883594188217601270:True:=trivial
theorem PySem.W.Fast.tw1519186147770010047:True:=trivial
theorem PySem.W.Fast.tw17697231758342204463:True:=trivial
theorem PySem.W.Fast.tw3621815815052677259:True:=trivial
theorem PySem.W.Fast.tw17181827986812628159:True:=trivial
theorem PySem.W.Fast.tw8535535633973178343:True:=trivial
theorem PySem.W.Fast.tw14987664467125405935:True:=trivial
theorem PySem.W.Fast.tw2075261640169234576:True:=trivial
theorem PySem.W.Fast.tw10555952585236265795:True:=trivial
theorem PySem.W.Fast.tw10861777786174363107:True:=trivial
theorem PySem.W.Fast.tw5366796125711697302:True:=trivial
theorem PySem.W.Fast.tw10126989955427001240:True:=trivial
theorem PySem.W.Fast.tw11540226549989237473:True:=trivial
theorem PySem.W.Fast.tw12582402589346450749:True:=trivial
theorem PySem.W.Fast.tw18132751404672194620:True:=trivial
theorem PySem.W.Fast.tw11934749515540614703:True:=trivial
theorem PySem.W.Fast.tw15266562408417685048:True:=trivial
theorem PySem.W.Fast.tw14682881304438498463:True:=trivial
theorem PySem.W.Fast.tw11848638915773417948:True:=trivial
theorem PySem.W.Fast.tw9342148697311350971:True:=trivial
theorem PySem.W.Fast.tw2801116926484094484:True:=trivial
theorem PySem.W.Fast.tw3451676904902969079:True:=trivial
theorem PySem.W.Fast.tw11586959809428536642:True:=trivial
theorem PySem.W.Fast.tw15487929159951781265:True:=trivial
theorem PySem.W.Fast.tw14864210935326383640:True:=trivial
theorem PySem.W.Fast.tw17841916147735955525:True:=trivial
theorem PySem.W.Fast.tw6157228555827173864:True:=trivial
theorem PySem.W.Fast.tw18002747437142910129:True:=trivial
theorem PySem.W.Fast.tw9277925401638405271:True:=trivial
theorem PySem.W.Fast.tw13952177006494186209:True:=trivial
theorem PySem.W.Fast.tw15097241285374003536:True:=trivial
theorem PySem.W.Fast.tw10050722509630845053:True:=trivial
theorem PySem.W.Fast.tw1515740661716125955:True:=trivial
theorem PySem.W.Fast.tw206776773245548219:True:=trivial
theorem PySem.W.Fast.tw1552232837372296354:True:=trivial
theorem PySem.W.Fast.tw16170732671160061222:True:=trivial
theorem PySem.W.Fast.tw16095452590043667102:True:=trivial
theorem PySem.W.Fast.tw2016208612024783590:True:=trivial
theorem PySem.W.Fast.tw9877829860996408535:True:=trivial
theorem PySem.W.Fast.tw14750054532096905216:True:=trivial
theorem PySem.W.Fast.tw12448498074720671334:True:=trivial
theorem PySem.W.Fast.tw16985263961982486421:True:=trivial
theorem PySem.W.Fast.tw1618578032660149164:True:=trivial
theorem PySem.W.Fast.tw14618350424914829566:True:=trivial
theorem PySem.W.Fast.tw17726994337302693702:True:=trivial
theorem PySem.W.Fast.tw15489097590054801920:True:=trivial
theorem PySem.W.Fast.tw17364366386133362615:True:=trivial
theorem PySem.W.Fast.tw17816179833985793447:True:=trivial
theorem PySem.W.Fast.tw7288408684274029392:True:=trivial
theorem PySem.W.Fast.tw14579477918754871729:True:=trivial
theorem PySem.W.Fast.tw17063655272526382240:True:=trivial
theorem PySem.W.Fast.tw17306506363929851239:True:=trivial
theorem PySem.W.Fast.tw1512069764137953567:True:=trivial
theorem PySem.W.Fast.tw9510206503977540254:True:=trivial
theorem PySem.W.Fast.tw10638834129710665934:True:=trivial
theorem PySem.W.Fast.tw10011105128759308251:True:=trivial
theorem PySem.W.Fast.tw16438087588998814089:True:=trivial
theorem PySem.W.Fast.tw11255813354747272310:True:=trivial
theorem PySem.W.Fast.tw6791475345068436379:True:=trivial
theorem PySem.W.Fast.tw8011769943851272987:True:=trivial
theorem PySem.W.Fast.tw14981843705988945311:True:=trivial
theorem PySem.W.Fast.tw14373209316083112397:True:=trivial
theorem PySem.W.Fast.tw12983432736032247321:True:=trivial
theorem PySem.W.Fast.tw18022983172381048159:True:=trivial
theorem PySem.W.Fast.tw15514194760855527503:True:=trivial
theorem PySem.W.Fast.tw2548787453559820096:True:=trivial
theorem PySem.W.Fast.tw15567985744597656296:True:=trivial
theorem PySem.W.Fast.tw914635188877487264:True:=trivial
theorem PySem.W.Fast.tw926625352737007601:True:=trivial
theorem PySem.W.Fast.tw14275062946597045906:True:=trivial
theorem PySem.W.Fast.tw6692801165415612022:True:=trivial
theorem PySem.W.Fast.tw10203286207704523685:True:=trivial
theorem PySem.W.Fast.tw12457899795090007774:True:=trivial
theorem PySem.W.Fast.tw2652640057691503237:True:=trivial
theorem PySem.W.Fast.tw12505285753844035250:True:=trivial
theorem PySem.W.Fast.tw9322799122682578963:True:=trivial
theorem PySem.W.Fast.tw9638371609126581740:True:=trivial
theorem PySem.W.Fast.tw17317638933559341193:True:=trivial
theorem PySem.W.Fast.tw15831632510340459807:True:=trivial
theorem PySem.W.Fast.tw14056605181038331890:True:=trivial
theorem PySem.W.Fast.tw17915037075298289060:True:=trivial
theorem PySem.W.Fast.tw16335541354072659124:True:=trivial
theorem PySem.W.Fast.tw10059532750642204004:True:=trivial
theorem PySem.W.Fast.tw2357481376656917132:True:=trivial
theorem PySem.W.Fast.tw4550982811646963698:True:=trivial
theorem PySem.W.Fast.tw1714046729353658928:True:=trivial
theorem PySem.W.Fast.tw12487473403165663905:True:=trivial
theorem PySem.W.Fast.tw8692795804599982215:True:=trivial
theorem PySem.W.Fast.tw12577726690563557827:True:=trivial
theorem PySem.W.Fast.tw4959390921435016955:True:=trivial
theorem PySem.W.Fast.tw933836734437986783:True:=trivial
theorem PySem.W.Fast.tw6851871867412061492:True:=trivial
theorem PySem.W.Fast.tw10077227572088120716:True:=trivial
theorem PySem.W.Fast.tw15580049100101578753:True:=trivial
theorem PySem.W.Fast.tw10444846806964531467:True:=trivial
theorem PySem.W.Fast.tw5764748485319264992:True:=trivial
theorem PySem.W.Fast.tw15685946749637160752:True:=trivial
theorem PySem.W.Fast.tw17857655399856122315:True:=trivial
theorem PySem.W.Fast.tw1481514973167490626:True:=trivial
theorem PySem.W.Fast.tw7542541233931917946:True:=trivial
theorem PySem.W.Fast.tw7727073756460478821:True:=trivial
theorem PySem.W.Fast.tw13257916920682184453:True:=trivial
theorem PySem.W.Fast.tw13621749710089892968:True:=trivial
theorem PySem.W.Fast.tw6967050509438149087:True:=trivial
theorem PySem.W.Fast.tw7114345489208056860:True:=trivial
theorem PySem.W.Fast.tw6015399154753833345:True:=trivial
theorem PySem.W.Fast.tw9421967807569352593:True:=trivial
theorem PySem.W.Fast.tw11689142998105507749:True:=trivial
theorem PySem.W.Fast.tw9802277478862739818:True:=trivial
theorem PySem.W.Fast.tw14821644444258554774:True:=trivial
theorem PySem.W.Fast.tw184987386484563044:True:=trivial
theorem PySem.W.Fast.tw18206167151342229908:True:=trivial
theorem PySem.W.Fast.tw15760422327164643519:True:=trivial
theorem PySem.W.Fast.tw12891442856789822407:True:=trivial
theorem PySem.W.Fast.tw5160732345287699297:True:=trivial
theorem PySem.W.Fast.tw14909083143871744869:True:=trivial
theorem PySem.W.Fast.tw15882791675253327581:True:=trivial
theorem PySem.W.Fast.tw12874377397202904283:True:=trivial
theorem PySem.W.Fast.tw3414924788686017569:True:=trivial
theorem PySem.W.Fast.tw13567129782042595980:True:=trivial
theorem PySem.W.Fast.tw18333859633538001888:True:=trivial
theorem PySem.W.Fast.tw233991026254868205:True:=trivial
theorem PySem.W.Fast.tw14681657669199631720:True:=trivial
theorem PySem.W.Fast.tw15513620626939231983:True:=trivial
theorem PySem.W.Fast.tw8274152321098429685:True:=trivial
theorem PySem.W.Fast.tw1430719389964204242:True:=trivial
theorem PySem.W.Fast.tw12580411994179576116:True:=trivial
theorem PySem.W.Fast.tw16373248962947979649:True:=trivial
theorem PySem.W.Fast.tw8302705334060882777:True:=trivial
theorem PySem.W.Fast.tw8349630704338319524:True:=trivial
theorem PySem.W.Fast.tw2600580425320641306:True:=trivial
theorem PySem.W.Fast.tw737077957614288887:True:=trivial
theorem PySem.W.Fast.tw15929940885574056453:True:=trivial
theorem PySem.W.Fast.tw6792372478574361930:True:=trivial
theorem PySem.W.Fast.tw13030554078359010217:True:=trivial
theorem PySem.W.Fast.tw2523566013175692518:True:=trivial
theorem PySem.W.Fast.tw11019055860882874297:True:=trivial
theorem PySem.W.Fast.tw11378244320963350061:True:=trivial
theorem PySem.W.Fast.tw3196185942256693409:True:=trivial
theorem PySem.W.Fast.tw12007710491928060396:True:=trivial
theorem PySem.W.Fast.tw15538060530097021604:True:=trivial
theorem PySem.W.Fast.tw5426393609819223260:True:=trivial
theorem PySem.W.Fast.tw15744365775985955302:True:=trivial
theorem PySem.W.Fast.tw18026771873336037273:True:=trivial
theorem PySem.W.Fast.tw12407567317349129042:True:=trivial
theorem PySem.W.Fast.tw16304236725341025560:True:=trivial
theorem PySem.W.Fast.tw10496783724461000453:True:=trivial
theorem PySem.W.Fast.tw9252374892281403574:True:=trivial
theorem PySem.W.Fast.tw9329105781877584821:True:=trivial
theorem PySem.W.Fast.tw6527600515407113439:True:=trivial
theorem PySem.W.Fast.tw17611851408871414122:True:=trivial
theorem PySem.W.Fast.tw6195828109920867604:True:=trivial
theorem PySem.W.Fast.tw455652760056738592:True:=trivial
theorem PySem.W.Fast.tw3552364178262363000:True:=trivial
theorem PySem.W.Fast.tw2827990366046798010:True:=trivial
theorem PySem.W.Fast.tw10485977286550064180:True:=trivial
theorem PySem.W.Fast.tw13224110969155037817:True:=trivial
theorem PySem.W.Fast.tw14836293517557408079:True:=trivial
theorem PySem.W.Fast.tw4039685328044599891:True:=trivial
theorem PySem.W.Fast.tw959182385862126452:True:=trivial
theorem PySem.W.Fast.tw4139345518075378976:True:=trivial
theorem PySem.W.Fast.tw13750122454996183969:True:=trivial
theorem PySem.W.Fast.tw1814854636470723738:True:=trivial
theorem PySem.W.Fast.tw990025021482280778:True:=trivial
theorem PySem.W.Fast.tw5915108319795042985:True:=trivial
theorem PySem.W.Fast.tw11644796076632011118:True:=trivial
theorem PySem.W.Fast.tw16507309833471136199:True:=trivial
theorem PySem.W.Fast.tw14895669685302090244:True:=trivial
theorem PySem.W.Fast.tw12064746191793917649:True:=trivial
theorem PySem.W.Fast.tw7809482408592639804:True:=trivial
theorem PySem.W.Fast.tw13707994097574336111:True:=trivial
theorem PySem.W.Fast.tw4542404094254512730:True:=trivial
theorem PySem.W.Fast.tw18355780610088715622:True:=trivial
theorem PySem.W.Fast.tw8389027502687251588:True:=trivial
theorem PySem.W.Fast.tw17099586075725183952:True:=trivial
theorem PySem.W.Fast.tw15674653984155166338:True:=trivial
theorem PySem.W.Fast.tw12721836869170146512:True:=trivial
theorem PySem.W.Fast.tw14085535820841214435:True:=trivial
theorem PySem.W.Fast.tw9886827955241134999:True:=trivial
theorem PySem.W.Fast.tw11979426958039275847:True:=trivial
theorem PySem.W.Fast.tw14162853133285553902:True:=trivial
theorem PySem.W.Fast.tw7784863553253736653:True:=trivial
theorem PySem.W.Fast.tw9632334478806158963:True:=trivial
theorem PySem.W.Fast.tw6572227174510875690:True:=trivial
theorem PySem.W.Fast.tw15487967625056776904:True:=trivial
theorem PySem.W.Fast.tw13812062181078647624:True:=trivial
theorem PySem.W.Fast.tw882222592510356:True:=trivial
theorem PySem.W.Fast.tw11702563180063280797:True:=trivial
theorem PySem.W.Fast.tw15643451777922381407:True:=trivial
theorem PySem.W.Fast.tw913113375508297821:True:=trivial
theorem PySem.W.Fast.tw7861715653705556602:True:=trivial
theorem PySem.W.Fast.tw7011277563665843588:True:=trivial
theorem PySem.W.Fast.tw10447460429632026296:True:=trivial
theorem PySem.W.Fast.tw13477177104823836380:True:=trivial
theorem PySem.W.Fast.tw1797050364681769884:True:=trivial
theorem PySem.W.Fast.tw10334451822407231544:True:=trivial
theorem PySem.W.Fast.tw4125909606720444909:True:=trivial
theorem PySem.W.Fast.tw3806952200945566961:True:=trivial
theorem PySem.W.Fast.tw11036889900905855966:True:=trivial
theorem PySem.W.Fast.tw2147153412607973376:True:=trivial
theorem PySem.W.Fast.tw14859017927155130846:True:=trivial
theorem PySem.W.Fast.tw9513398591490929354:True:=trivial
theorem PySem.W.Fast.tw13304239169755978068:True:=trivial
theorem PySem.W.Fast.tw15461371634549208123:True:=trivial
theorem PySem.W.Fast.tw17113698542401700854:True:=trivial
theorem PySem.W.Fast.tw13282826414123808823:True:=trivial
theorem PySem.W.Fast.tw2805245881250829422:True:=trivial
theorem PySem.W.Fast.tw9141877495898110560:True:=trivial
theorem PySem.W.Fast.tw6064183789721052862:True:=trivial
theorem PySem.W.Fast.tw16424548022174049944:True:=trivial
theorem PySem.W.Fast.tw18424252086912241388:True:=trivial
theorem PySem.W.Fast.tw13114261203670350921:True:=trivial
theorem PySem.W.Fast.tw1922847506675156633:True:=trivial
theorem PySem.W.Fast.tw2626847210190751673:True:=trivial
theorem PySem.W.Fast.tw13317647267064180702:True:=trivial
theorem PySem.W.Fast.tw9872913887273416325:True:=trivial
theorem PySem.W.Fast.tw10054854312901525585:True:=trivial
noncomputable def PySem.W.Fast.tw2147514539944736937:PySem.Program:={ PySem.Challenge.pw_wirechannel_k12_channels_refused with main:={ PySem.Challenge.pw_wirechannel_k12_channels_refused.main with body:=[1,2,3,4,5,6,7,8,9,10,11,12,14,15,16,17,19,20,21,22,23,24,25,26,28,30,31,32,33,34,35,36,37,38,39,40,41,42,43,44,45,46,47,48,49,50,51,52,53].map fun i=>PySem.Challenge.pw_wirechannel_k12_channels_refused.main.body.getD i (.Pass ⟨0,0,0,0⟩) } }
theorem PySem.W.Fast.te2147514539944736937:({ PySem.Challenge.pw_wirechannel_k12_channels_refused with main:={ PySem.Challenge.pw_wirechannel_k12_channels_refused.main with body:=[1,2,3,4,5,6,7,8,9,10,11,12,14,15,16,17,19,20,21,22,23,24,25,26,28,30,31,32,33,34,35,36,37,38,39,40,41,42,43,44,45,46,47,48,49,50,51,52,53].map fun i=>PySem.Challenge.pw_wirechannel_k12_channels_refused.main.body.getD i (.Pass ⟨0,0,0,0⟩) } }:PySem.Program)=PySem.W.Fast.tw2147514539944736937:=rfl
local macro_rules | `(tactic| walk_at "A")=>`(tactic| ((try dsimp only[L2.d7]);refine' L2.zH KX G ?a ?l ?c ?k;(case a=>k_is);(case l=>k_is);(case c=>k_is);(case k=>k_is)))
local macro_rules | `(tactic| walk_at "Ax")=>`(tactic| exact⟨_,_,_,_,by k_is,by k_is,ba KX G (by k_is),by k_is,by kernel_rfl,by k_is,L2.mX (by k_is) (by k_is) (by k_is),⟨by kernel_rfl,by k_is,by k_is⟩,ba KX G (by k_is),by k_is,by k_is,by k_is,by decide +kernel⟩)
theorem PySem.Challenge.cw_wirechannel_k12_channels_refused_holds : PySem.Challenge.rw_wirechannel_k12_channels_refused.Holds := by
 w_on;o_law;k_head;(case hw=>w_witness2)
 k_fill
 refine L2.n8 (l:=PySem.Challenge.rw_wirechannel_k12_channels_refused) (n:=63) (k:=8) (x:="_law_script") rfl (by decide) rfl ⟨rfl,by decide,by decide⟩ (fun w h Y=>PySem.W.kIn_of Y) ?F
 case F=>
  intro w mg fa h KX G sd;have jb:L2.BG (L2.d7 KX) mg "Channel" "Channel.__init__" Wc.gL ["top","bottom","left","right","wide","bends","keeps"]:=by
   dsimp only[L2.d7];refine' L2.u9 KX G ?aC ?a1 ?i1 ?l1 ?c1 ?k1 ?pg ?hd ?po ?sa ?mk ?kc ⟨?n0,?n1,?n2,?n3,?n4,?n5,?n6,trivial⟩
   (case aC=>k_is)
   (case a1=>k_is)
   (case i1=>k_is)
   (case l1=>k_is)
   (case c1=>k_is)
   (case k1=>k_is)
   (case pg=>k_is)
   (case hd=>k_is)
   (case po=>k_is)
   (case sa=>k_is)
   (case mk=>k_is)
   (case kc=>k_is)
   (case n0=>unfold L2.cO;k_is)
   (case n1=>unfold L2.cO;k_is)
   (case n2=>unfold L2.cO;k_is)
   (case n3=>unfold L2.cO;k_is)
   (case n4=>unfold L2.cO;k_is)
   (case n5=>unfold L2.cO;k_is)
   (case n6=>unfold L2.cO;k_is)
  have eI:∃t,mg "MOST_KEPT"=some (.int 3 t):=by
   refine' L2.sy KX G ?c ?e
   (case c=>k_is)
   (case e=>exact rfl)
  have T:Wc.Txt (L2.d7 KX) mg:=by
   dsimp only[L2.d7];refine' ⟨a9 KX G ?b_ValueError,a9 KX G ?b_enumerate,a9 KX G ?b_int,a9 KX G ?b_isinstance,a9 KX G ?b_len,a9 KX G ?b_list,a9 KX G ?b_max,a9 KX G ?b_min,a9 KX G ?b_range,a9 KX G ?b_set,a9 KX G ?b_sorted,a9 KX G ?b_sum,eI⟩
   (case b_ValueError=>k_is)
   (case b_enumerate=>k_is)
   (case b_int=>k_is)
   (case b_isinstance=>k_is)
   (case b_len=>k_is)
   (case b_list=>k_is)
   (case b_max=>k_is)
   (case b_min=>k_is)
   (case b_range=>k_is)
   (case b_set=>k_is)
   (case b_sorted=>k_is)
   (case b_sum=>k_is)
  have nq:L2.sI (L2.d7 KX) mg "Lone" "Lone.__init__" "word" Wc.mS:=by
   dsimp only[L2.d7];walk_at "Ax"
  have lE:L2.sI (L2.d7 KX) mg "NoNet" "NoNet.__init__" "word" Wc.kS:=by
   dsimp only[L2.d7];walk_at "Ax"
  have jd:L2.sI (L2.d7 KX) mg "BadBend" "BadBend.__init__" "column" Wc.iV:=by
   dsimp only[L2.d7];walk_at "Ax"
  have jc:L2.sI (L2.d7 KX) mg "BadKeep" "BadKeep.__init__" "place" Wc.iU:=by
   dsimp only[L2.d7];walk_at "Ax"
  have zG:∃bP:Addr,mg "Lone"=some (.ref bP)/\∃bK:Addr,mg "NoNet"=some (.ref bK)/\∃bD:Addr,mg "BadBend"=some (.ref bD)/\∃bC:Addr,mg "BadKeep"=some (.ref bC)/\∃bO:Addr,mg "WireError"=some (.ref bO)/\∃bX:Addr,mg "BadText"=some (.ref bX)/\∃bU:Addr,mg "NoLayout"=some (.ref bU)/\∃bW:Addr,mg "NoOrder"=some (.ref bW)/\∃bT:Addr,mg "PinTaken"=some (.ref bT)/\∃cu:Addr,mg "Taken"=some (.ref cu)/\∃bM:Addr,mg "BadDrawing"=some (.ref bM)/\∃bY:Addr,mg "BadPile"=some (.ref bY)/\(PySem.W.nsIn (L2.d7 KX) mainGlobals "Lone"=some (some (.ref bP)))/\(L2.me (L2.d7 KX) bP)/\(PySem.W.exmOne (L2.d7 KX) (.ref bP) (.ref bO)=some true)/\(L2.kC (L2.d7 KX) bP "word")/\(PySem.W.nsIn (L2.d7 KX) mainGlobals "NoNet"=some (some (.ref bK)))/\(L2.me (L2.d7 KX) bK)/\(PySem.W.exmOne (L2.d7 KX) (.ref bK) (.ref bO)=some true)/\(L2.kC (L2.d7 KX) bK "word")/\(PySem.W.nsIn (L2.d7 KX) mainGlobals "BadBend"=some (some (.ref bD)))/\(L2.me (L2.d7 KX) bD)/\(PySem.W.exmOne (L2.d7 KX) (.ref bD) (.ref bO)=some true)/\(L2.kC (L2.d7 KX) bD "column")/\(PySem.W.nsIn (L2.d7 KX) mainGlobals "BadKeep"=some (some (.ref bC)))/\(L2.me (L2.d7 KX) bC)/\(PySem.W.exmOne (L2.d7 KX) (.ref bC) (.ref bO)=some true)/\(L2.kC (L2.d7 KX) bC "place")/\(PySem.W.kitAny (L2.d7 KX) (.ref bP) [.ref bX,.ref bU,.ref bW,.ref bT,.ref cu]=some false)/\(PySem.W.kitAny (L2.d7 KX) (.ref bK) [.ref bX,.ref bU,.ref bW,.ref bT,.ref cu]=some false)/\(PySem.W.kitAny (L2.d7 KX) (.ref bD) [.ref bX,.ref bU,.ref bW,.ref bT,.ref cu]=some false)/\(PySem.W.kitAny (L2.d7 KX) (.ref bC) [.ref bX,.ref bU,.ref bW,.ref bT,.ref cu]=some false)/\(PySem.W.kitOne (L2.d7 KX) (.ref bP) (.type "ValueError")=some true)/\(PySem.W.kitOne (L2.d7 KX) (.ref bK) (.type "ValueError")=some true)/\(PySem.W.kitOne (L2.d7 KX) (.ref bD) (.type "ValueError")=some true)/\(PySem.W.kitOne (L2.d7 KX) (.ref bC) (.type "ValueError")=some true)/\(PySem.W.kitAny (L2.d7 KX) (.ref bP) [.ref bM,.ref bY]=some false)/\(PySem.W.kitAny (L2.d7 KX) (.ref bK) [.ref bM,.ref bY]=some false)/\(PySem.W.kitAny (L2.d7 KX) (.ref bD) [.ref bM,.ref bY]=some false)/\(PySem.W.kitAny (L2.d7 KX) (.ref bC) [.ref bM,.ref bY]=some false)/\(PySem.W.kitOne (L2.d7 KX) (.ref bP) (.ref bK)=some false)/\(PySem.W.kitOne (L2.d7 KX) (.ref bK) (.ref bK)=some true)/\(PySem.W.kitOne (L2.d7 KX) (.ref bD) (.ref bK)=some false)/\(PySem.W.kitOne (L2.d7 KX) (.ref bC) (.ref bK)=some false)/\(PySem.W.kitOne (L2.d7 KX) (.ref bP) (.ref bP)=some true)/\(PySem.W.kitOne (L2.d7 KX) (.ref bK) (.ref bP)=some false)/\(PySem.W.kitOne (L2.d7 KX) (.ref bD) (.ref bP)=some false)/\(PySem.W.kitOne (L2.d7 KX) (.ref bC) (.ref bP)=some false)/\(PySem.W.kitOne (L2.d7 KX) (.ref bP) (.ref bC)=some false)/\(PySem.W.kitOne (L2.d7 KX) (.ref bK) (.ref bC)=some false)/\(PySem.W.kitOne (L2.d7 KX) (.ref bD) (.ref bC)=some false)/\(PySem.W.kitOne (L2.d7 KX) (.ref bC) (.ref bC)=some true)/\(PySem.W.kitOne (L2.d7 KX) (.ref bP) (.ref bD)=some false)/\(PySem.W.kitOne (L2.d7 KX) (.ref bK) (.ref bD)=some false)/\(PySem.W.kitOne (L2.d7 KX) (.ref bD) (.ref bD)=some true)/\(PySem.W.kitOne (L2.d7 KX) (.ref bC) (.ref bD)=some false):=by
   dsimp only[L2.d7];exact⟨_,ba KX G (by k_is),_,ba KX G (by k_is),_,ba KX G (by k_is),_,ba KX G (by k_is),_,ba KX G (by k_is),_,ba KX G (by k_is),_,ba KX G (by k_is),_,ba KX G (by k_is),_,ba KX G (by k_is),_,ba KX G (by k_is),_,ba KX G (by k_is),_,ba KX G (by k_is),by k_is,⟨by k_is,by k_is,by k_is,by k_is,by k_is,by k_is,by k_is,by k_is⟩,by kernel_rfl,⟨by k_is,by k_is,by k_is,by k_is,by k_is⟩,by k_is,⟨by k_is,by k_is,by k_is,by k_is,by k_is,by k_is,by k_is,by k_is⟩,by kernel_rfl,⟨by k_is,by k_is,by k_is,by k_is,by k_is⟩,by k_is,⟨by k_is,by k_is,by k_is,by k_is,by k_is,by k_is,by k_is,by k_is⟩,by kernel_rfl,⟨by k_is,by k_is,by k_is,by k_is,by k_is⟩,by k_is,⟨by k_is,by k_is,by k_is,by k_is,by k_is,by k_is,by k_is,by k_is⟩,by kernel_rfl,⟨by k_is,by k_is,by k_is,by k_is,by k_is⟩,by kit_is,by kit_is,by kit_is,by kit_is,by kit_is,by kit_is,by kit_is,by kit_is,by kit_is,by kit_is,by kit_is,by kit_is,by kit_is,by kit_is,by kit_is,by kit_is,by kit_is,by kit_is,by kit_is,by kit_is,by kit_is,by kit_is,by kit_is,by kit_is,by kit_is,by kit_is,by kit_is,by kit_is⟩
  obtain⟨bP,gi,bK,e6,bD,dw,bC,dv,bO,dJ,bX,dn,bU,cQ,bW,dm,bT,cP,cu,eZ,bM,cC,bY,du,d6,dG,gP,gQ,c7,cU,fT,fU,cy,cA,ez,eB,cx,cz,ey,eA,I1,I2,I3,I4,I5,I6,I7,I8,I9,t9,w8,w6,w5,wZ,wY,wX,wW,wV,wU,wR,wQ,wO,wN,wM,wL,wK,wJ,wI⟩:=zG;exact Wc.uK T jb ⟨by walk_at "A",by walk_at "A",by walk_at "A",by walk_at "A",by walk_at "A",by walk_at "A",by walk_at "A",by walk_at "A",by walk_at "A",by walk_at "A",by walk_at "A",by walk_at "A",by walk_at "A",by walk_at "A",by walk_at "A",by walk_at "A",by walk_at "A",by walk_at "A",by walk_at "A",by walk_at "A",by walk_at "A",by walk_at "A",by walk_at "A",by walk_at "A",trivial⟩  nq lE jd jc (by walk_at "A") (by walk_at "A") (by walk_at "A") (by walk_at "A") (by walk_at "A") (by walk_at "A") (by walk_at "A") (by walk_at "A") (by walk_at "A") (by walk_at "A") (by walk_at "A") d6 dG gP gQ c7 cU fT fU cy cA ez eB cx cz ey eA gi e6 dw dv dJ dn cQ dm cP eZ cC du I1 I2 I3 I4 I5 I6 I7 I8 I9 t9 w8 w6 w5 wZ wY wX wW wV wU wR wQ wO wN wM wL wK wJ wI sd
#print axioms PySem.Challenge.cw_wirechannel_k12_channels_refused_holds
