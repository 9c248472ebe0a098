import PyProof.Rows.All
import Wide.All
import OpenK.AllK
import Wide.FinOn
import Lean
import PyProof.EqAt
import PyProof.EqKinds
import PyProof.TupleCall
import PyProof.NeKinds
import PyProof.SliceStr2
import PyProof.ConsumeWalk
import KE.KDictSum
import PyProof.DictWalks
import PyProof.AttrMissSeq
import KE.KDictOf
import PyProof.WalksS
import PyProof.Walks
import PyProof.DictList
import PyProof.MeetsDict
import PyProof.FactsAll.dict_3
import PyProof.MinMaxWalk
import PyProof.WalkInts
import PyProof.Rows.CallKwBuiltin
import PyProof.MaxThree
import PyProof.Rows.SortRunsK
import KE.KSortAsk
import PyProof.Rows.SortShellK
import KE.KSortTup
import PyProof.DictRoadsH
import PyProof.DictIter
import KE.KDictList
import PyProof.ZipIter
import PyProof.TupleIter
import PyProof.WalksMore
import PyProof.SumWalkG
import PyProof.DictValues
import PyProof.FactsAll.dict_4
import PySem.SetOps
import OpenK.KMore
import PyProof.ListRange
import PyProof.DictItems
import PyProof.CallStr
import KE.KIntText
import PyProof.StrCalls2
import PyProof.Rows.StrItems
import PyProof.FactsAll.NoneType
import PySem.Challenge.RW_wirechannel_k13_pieces
set_option hygiene false
set_option compiler.extract_closed false
noncomputable section
local macro_rules | `(tactic| omega) => `(tactic| lia)
set_option Elab.async false
set_option linter.all false
set_option maxRecDepth 100000
def aa:=@PySem.wpAny_bind
def ab:=@PySem.wpAny_pure
def ae:=@PySem.Heap.get?_push_of_some
def af:=@List.length_map
def ag:=@Bool.not_false
def ah:=@List.size_toArray
def ai:=@List.mem_cons
def aj:=@PySem.Heap.lt_size
def ak:=@Array.length_toList
def ao:=@PySem.Heap.get?_push_size
def aq:=@Nat.le_refl
def ar:=@List.getElem?_eq_getElem
def au:=@List.length_append
def av:=@List.map_cons
def aw:=@List.length_cons
def ax:=@List.getElem?_eq_some_iff
def ay:=@Bool.false_eq_true
def az:=@Nat.ne_of_lt
def aA:=@List.mem_append
def aB:=@List.not_mem_nil
def aD:=@List.mem_singleton
def aE:=@Nat.lt_of_lt_of_le
def aF:=@List.mem_map
def aG:=@Bool.false_ne_true
def aH:=@PySem.W.mg_none_of
def aI:=@List.mem_append_right
def aJ:=@Nat.le_trans
def aK:=@List.getElem?_map
def aL:=@List.length_take
def aM:=@List.mem_cons_of_mem
def aN:=@Int.emod_lt_of_pos
def aO:=@List.map_append
def aP:=@Int.emod_nonneg
def aQ:=@PySem.wpAny_holding
def aR:=@PyProof.Rows.F.plain_set_update_loop
def aS:=@PySem.wpAny_setState_of
def aT:=@List.length_nil
def aU:=@if_false
def aV:=@Option.some.injEq
def aW:=@List.map_nil
def aX:=@List.nodup_cons
def aY:=@if_true
namespace L2
open PySem PySem.Spec PyProof.Rows
noncomputable abbrev Key:=Sum Int Str
noncomputable def zC:Key->Value->Bool
 | .inl k,v=>Value.isInt k v
 | .inr x,v=>Value.isStrOf x v
noncomputable def Ds(w:World):Key->Int
 | .inl k=>hashInt k
 | .inr x=>hashStr w x
theorem mR:∀{k:Key} {v:Value},zC k v=true->(∃i t,k=Sum.inl i/\v=Value.int i t)\/(∃x t,k=Sum.inr x/\v=Value.str x t)
 | .inl i,v,h=>by
  obtain⟨t,e⟩:=Value.isInt_shape (k:=i) (v:=v) h;exact .inl ⟨i,t,rfl,e⟩
 | .inr x,v,h=>by
  obtain⟨t,e⟩:=Value.isStrOf_shape (x:=x) (v:=v) h;exact .inr ⟨x,t,rfl,e⟩
theorem EX(a b:Int):decide ((Sum.inl a:Key)=Sum.inl b)=(a==b):=by
 by_cases e:a=b
 ·subst e;simp
 ·have h:¬(Sum.inl a:Key)=Sum.inl b:=fun q=>e (Sum.inl.inj q)
  rw[decide_eq_false h];exact(beq_eq_false_iff_ne.mpr e).symm
theorem EW(a b:Str):decide ((Sum.inr a:Key)=Sum.inr b)=decide (a=b):=by
 by_cases e:a=b
 ·subst e;simp
 ·have h:¬(Sum.inr a:Key)=Sum.inr b:=fun q=>e (Sum.inr.inj q)
  rw[decide_eq_false h,decide_eq_false e]
theorem EV(a:Int)(b:Str):decide ((Sum.inl a:Key)=Sum.inr b)=false:=decide_eq_false (fun q=>nomatch q)
theorem EU(a:Str)(b:Int):decide ((Sum.inr a:Key)=Sum.inl b)=false:=decide_eq_false (fun q=>nomatch q)
noncomputable def Ak(prog:Program)(w:World):PySem.KeyKind prog w Key where
 is:=zC
 hash:=Ds w
 inj:=fun v a b ha hb=>by
  rcases mR ha with⟨i,t,rfl,rfl⟩ | ⟨x,t,rfl,rfl⟩
  ·rcases mR hb with⟨j,u,rfl,e⟩ | ⟨y,u,rfl,e⟩
   ·injection e with e1 _;rw[e1]
   ·exact nomatch e
  ·rcases mR hb with⟨j,u,rfl,e⟩ | ⟨y,u,rfl,e⟩
   ·exact nomatch e
   ·injection e with e1 _;rw[e1]
 byValue:=fun k v h=>by
  rcases mR h with⟨i,t,rfl,rfl⟩ | ⟨x,t,rfl,rfl⟩<;>rfl
 pyHash:=fun hv h=>by
  rcases mR hv with⟨i,t,rfl,rfl⟩ | ⟨x,t,rfl,rfl⟩
  ·exact wpAny_pyHash_int h
  ·exact wpAny_pyHash_str h
 eqBool:=fun hu hv h=>by
  rcases mR hu with⟨i,t,rfl,rfl⟩ | ⟨x,t,rfl,rfl⟩
  ·rcases mR hv with⟨j,u,rfl,rfl⟩ | ⟨y,u,rfl,rfl⟩
   ·rw[EX] at h;exact wpAny_eqBool_int h
   ·rw[EV] at h;exact SeqAt.EqAt.int_str i t y u _ _ _ _ h
  ·rcases mR hv with⟨j,u,rfl,rfl⟩ | ⟨y,u,rfl,rfl⟩
   ·rw[EU] at h;exact SeqAt.EqAt.str_int x t j u _ _ _ _ h
   ·rw[EW] at h;exact wpAny_eqBool_str h
 «strs»:=fun k x t v h=>by
  rcases mR h with⟨i,u,rfl,e⟩ | ⟨y,u,rfl,e⟩
  ·exact nomatch e
  ·injection e with e1 _
   subst e1;cases v<;>rfl
end L2
namespace L2
open PySem PySem.Spec PyProof.Rows
inductive V where
 | non | bl (b:Bool) | int (i:Int) | str (x:Str) | vd (b:Array UInt8) | va (b:UInt64) | ref (a:Addr) | ty (n:String)
 deriving DecidableEq
def RelV:V->Value->Prop
 | .non,u=>u=Value.none
 | .bl b,u=>u=Value.bool b
 | .int i,u=>∃t,u=Value.int i t
 | .str x,u=>∃t,u=Value.str x t
 | .vd b,u=>∃t,u=Value.bytes b t
 | .va b,u=>∃t,u=Value.float b t
 | .ref a,u=>u=Value.ref a
 | .ty n,u=>u=Value.type n
abbrev Vals:List V->List Value->Prop:=Paired RelV
theorem Vals.length{xs:List V}{us:List Value}(r:Vals xs us):xs.length=us.length:=Paired.length r
theorem Vals.get:∀{xs:List V} {us:List Value} {i:Nat} {x:V},Vals xs us->xs[i]?=some x->∃u,us[i]?=some u/\RelV x u
 | _,_,_,_,.nil,e=>by simp at e
 | _,_,0,_,.cons r _,e=>by simp at e;subst e;exact⟨_,rfl,r⟩
 | _,_,i+1,x,.cons _ t,e=>by
  obtain⟨u,h1,h2⟩:=Vals.get (i:=i) (x:=x) t (by simpa using e);exact⟨u,by simpa using h1,h2⟩
theorem Vals.append:∀{xs ys:List V} {us ws:List Value},Vals xs us->Vals ys ws->Vals (xs++ys) (us++ws)
 | _,_,_,_,.nil,s=>s
 | _,_,_,_,.cons r t,s=>.cons r (Vals.append t s)
theorem Vals.take:∀{xs:List V} {us:List Value} (n:Nat),Vals xs us->Vals (xs.take n) (us.take n)
 | _,_,0,_=>.nil
 | _,_,_+1,.nil=>.nil
 | _,_,n+1,.cons r t=>.cons r (Vals.take n t)
theorem Vals.drop:∀{xs:List V} {us:List Value} (n:Nat),Vals xs us->Vals (xs.drop n) (us.drop n)
 | _,_,0,r=>r
 | _,_,_+1,.nil=>.nil
 | _,_,n+1,.cons _ t=>Vals.drop n t
def jI:Option V->Option Value->Prop
 | some v,some u=>RelV v u
 | none,none=>True
 | _,_=>False
def KV{κ:Type}:List (κ×V)->List (κ×Value)->Prop:=Paired fun(p:κ×V) (q:κ×Value)=>p.1=q.1/\RelV p.2 q.2
noncomputable def kV:Key->V
 | .inl i=>.int i
 | .inr x=>.str x
inductive HO where
 /-- a list -/
 | lst (xs:List V)
 /-- a tuple (never changes) -/
 | tup (xs:List V)
 /-- a dict rO keys are ints and texts;one rO keys are tuples of ints and texts (jT empty one is both) -/
 | dK (bS:List (Key×V)) (ep:Nat) | dT (bS:List (List Key×V)) (bs:List Addr)
 /-- a set of ints: its members,its size -/
 | set (S:Int->Bool) (n:Nat)
 /-- an instance of jT class at C,its dict at dx,its attributes -/
 | ins (C dx:Addr) (fs:List (Str×V))
 /-- jT dict of jT instance at x -/
 | own (x:Addr)
 /-- jT dict of an exception -/
 | xd (fs:List (Str×V))
 /-- a bound method,f of x -/
 | met (f x:Addr)
 /-- a range object lo,lo+1,.. below hi -/
 | xP (lo hi:Int)
 /-- a rT Kf is known to jT object (jT lj;a dict while a loop walks it): read,never written while it is so -/
 | hX (o:Obj) (u:HO)
 /-- a code si table -/
 | oN (ps:Array Value)
 /-- any other rT,by xD is true of its one object (a def of BS own: L7 a S n:=HO.ext fun h=>..) -/
 | ext (φ:Heap->Prop)
noncomputable abbrev Hp:=Addr->Option HO
noncomputable def upd(H:Hp)(a:Addr)(o:HO):Hp:=fun b=>if b=a then some o else H b
theorem fq{H:Hp}{a:Addr}{o:HO}:upd H a o a=some o:=by unfold upd;rw[if_pos rfl]
theorem cA{H:Hp}{a b:Addr}{o:HO}(h:b≠a):upd H a o b=H b:=by unfold upd;rw[if_neg h]
theorem D0{H:Hp}{a b:Addr}{o u:HO}(h:H a=some o)(h':H b=some u)(d:o≠u):a≠b:=by
 intro e;subst e;rw[h] at h';exact d (Option.some.inj h')
theorem gO{H:Hp}{a b:Addr}{o:HO}(h:H a=some o)(h':H b=none):a≠b:=by
 intro e;subst e;rw[h] at h';cases h'
section
variable (P:Program) (w:World)
def cJ(H:Hp)(h:Heap)(a:Addr):HO->Prop
 | .lst xs=>xs.length<=sizeLine/\∃(its:List Value) (n:Nat),Vals xs its/\h.get? a=some { cls:=.type "list",data:=.seq its.toArray n }
 | .tup xs=>xs.length<=sizeLine/\∃its:List Value,Vals xs its/\IsTup h a its.toArray
 | .dK bS ep=>bS.length<=sizeLine/\(a==sysModules)=false/\∃vs,KV bS vs/\h.DictAt (Ak P w) a vs ep
 | .dT bS bs=>bS.length<=sizeLine/\(a==sysModules)=false/\∃xs:List (List Key×Addr×Value),xs.map (fun x=>x.2.1)=bs/\
   Paired (fun(p:List Key×V) (q:List Key×Addr×Value)=>p.1=q.1/\H q.2.1=some (.tup (p.1.map kV))/\RelV p.2 q.2.2) bS xs/\
   ∃o es ep,h.get? a=some o/\o.ExactDict/\o.data=.dict es ep/\es.toList=xs.map (entryOfKey (tupleKind (Ak P w)))/\(xs.map (·.1)).Nodup
 | .set S n=>h.SetOf (intKind P w) a S n
 | .ins C dx fs=>H dx=some (.own a)/\fs.length<=1000/\dx≠a/\h.get? a=some (PySem.W.instObj C dx)/\
   ∃mA,h.Ns1 dx mA/\(∀f,jI (fs.lookup f) (mA f))/\PySem.Within mA (fs.map (·.1))
 | .own _=>∃o,h.get? a=some o
 | .xd fs=>∃mA,h.Ns1 a mA/\∀f,jI (fs.lookup f) (mA f)
 | .xP lo hi=>∃t u v,h.get? a=some { cls:=.type "range",data:=.fields #[.int lo t,.int hi u,.int 1 v] }
 | .hX o u=>h.get? a=some o/\cJ H h a u
 | .oN ps=>h.get? a=some { cls:=.none,data:=.fields ps }
 | .met f x=>h.get? a=some (PySem.W.methodObj (.ref f) (.ref x))
 | .ext φ=>φ h/\(∃o,h.get? a=some o)/\∀h1 h2:Heap,φ h1->(∀o,h1.get? a=some o->h2.get? a=some o)->φ h2
def gw(H:Hp)(h:Heap):Prop:=∀a o,H a=some o->cJ P w H h a o
end
section
variable {P:Program} {w:World} {H H':Hp} {h h':Heap} {a:Addr} {o:HO}
theorem cJ.lt(x:cJ P w H h a o):a<h.objs.size:=by
 cases o with
 | lst xs=>obtain⟨_,_,_,_,e⟩:=x;exact aj e
 | tup xs=>obtain⟨_,_,_,p⟩:=x;exact p.lt
 | dK bS ep=>obtain⟨_,_,_,_,o,_,e,_⟩:=x;exact aj e
 | dT bS bs=>obtain⟨_,_,_,_,_,o,_,_,e,_⟩:=x;exact aj e
 | set S n=>obtain⟨o,_,_,_,e,_⟩:=x;exact aj e
 | ins C dx fs=>obtain⟨_,_,_,e,_⟩:=x;exact aj e
 | own y=>obtain⟨_,e⟩:=x;exact aj e
 | xd fs=>obtain⟨_,⟨_,_,_,e,_⟩,_⟩:=x;exact aj e
 | xP lo hi=>obtain⟨_,_,_,e⟩:=x;exact aj e
 | hX ob u=>obtain⟨e,_⟩:=x;exact aj e
 | oN ps=>exact aj (show h.get? a=some _ from x)
 | met f y=>exact aj (show h.get? a=some _ from x)
 | ext φ=>obtain⟨_,⟨_,e⟩,_⟩:=x;exact aj e
theorem Paired.sv{α β:Type}{F G:α->β->Prop}:∀{sy:List α} {sx:List β},Paired F sy sx->(∀a b,F a b->G a b)->Paired G sy sx
 | _,_,.nil,_=>.nil
 | _,_,.cons r t,f=>.cons (f _ _ r) (Paired.sv t f)
theorem cJ.jy(x:cJ P w H h a o)(k:∀b u,(b=a\/H b=some (.own a))->h.get? b=some u->h'.get? b=some u)
  (ho:∀b,H b=some (.own a)->H' b=some (.own a)) (ht:∀b xs,H b=some (.tup xs)->H' b=some (.tup xs)):cJ P w H' h' a o:=by
 induction o with
 | lst xs=>obtain⟨z,its,n,r,e⟩:=x;exact⟨z,its,n,r,k _ _ (.inl rfl) e⟩
 | tup xs=>obtain⟨z,its,r,ob,e,c⟩:=x;exact⟨z,its,r,ob,k _ _ (.inl rfl) e,c⟩
 | dK bS ep=>obtain⟨z,y,vs,r,ob,es,e,c⟩:=x;exact⟨z,y,vs,r,ob,es,k _ _ (.inl rfl) e,c⟩
 | dT bS bs=>
  obtain⟨z,y,xs,bq,r,ob,es,ep,e,c⟩:=x;exact⟨z,y,xs,bq,Paired.sv r fun p q z=>⟨z.1,ht _ _ z.2.1,z.2.2⟩,ob,es,ep,k _ _ (.inl rfl) e,c⟩
 | set S n=>obtain⟨ob,es,ep,t,e,c⟩:=x;exact⟨ob,es,ep,t,k _ _ (.inl rfl) e,c⟩
 | ins C dx fs=>
  obtain⟨d,z,ne,e,mA,⟨od,es,ep,e2,c⟩,r⟩:=x;exact⟨ho _ d,z,ne,k _ _ (.inl rfl) e,mA,⟨od,es,ep,k _ _ (.inr d) e2,c⟩,r⟩
 | own y=>obtain⟨ob,e⟩:=x;exact⟨ob,k _ _ (.inl rfl) e⟩
 | xd fs=>obtain⟨mA,⟨od,es,ep,e,c⟩,r⟩:=x;exact⟨mA,⟨od,es,ep,k _ _ (.inl rfl) e,c⟩,r⟩
 | xP lo hi=>obtain⟨t,u,v,e⟩:=x;exact⟨t,u,v,k _ _ (.inl rfl) e⟩
 | hX ob u ih=>obtain⟨e,q⟩:=x;exact⟨k _ _ (.inl rfl) e,ih q⟩
 | oN ps=>
  have e:h.get? a=some { cls:=.none,data:=.fields ps }:=x;show h'.get? a=some { cls:=.none,data:=.fields ps };exact k a _ (.inl rfl) e
 | met f y=>
  have e:h.get? a=some (PySem.W.methodObj (.ref f) (.ref y)):=x;show h'.get? a=some (PySem.W.methodObj (.ref f) (.ref y));exact k a _ (.inl rfl) e
 | ext φ=>obtain⟨p,⟨o,e⟩,st⟩:=x;exact⟨st _ _ p fun o q=>k _ _ (.inl rfl) q,⟨o,k _ _ (.inl rfl) e⟩,st⟩
theorem gw.lt(x:gw P w H h)(e:H a=some o):a<h.objs.size:=(x a o e).lt
theorem gw.fresh(x:gw P w H h)(e:h.objs.size<=a):H a=none:=by
 cases q:H a with
 | none=>rfl
 | some u=>exact absurd (aE (x.lt q) e) (Nat.lt_irrefl _)
theorem gw.kept(x:gw P w H h)(k:∀b u,h.get? b=some u->h'.get? b=some u):gw P w H h':=fun a o e=>
 (x a o e).jy (fun b u _ q=>k b u q) (fun _ q=>q) fun _ _ q=>q
theorem gw.laid(x:gw P w H h)(k:∀b u,h.get? b=some u->h'.get? b=some u)(hp:h.objs.size<=a)(new:cJ P w (upd H a o) h' a o):gw P w (upd H a o) h':=fun b u e=>by
 have hn:=x.fresh hp;by_cases hb:b=a
 ·subst hb;rw[fq] at e;cases e;exact new
 ·rw[cA hb] at e;exact(x b u e).jy (fun c v _ q=>k c v q) (fun c q=>by rw[cA (gO q hn)];exact q) fun c xs q=>by rw[cA (gO q hn)];exact q
end
def Rd(H:Hp)(a:Addr)(u:HO):Prop:=H a=some u\/∃o,H a=some (.hX o u)
theorem Rd.ok{P:Program}{w:World}{H:Hp}{h:Heap}{a:Addr}{u:HO}(r:Rd H a u)(x:gw P w H h):cJ P w H h a u:=by
 rcases r with r | ⟨o,r⟩
 ·exact x a u r
 ·obtain⟨_,q⟩:=x a _ r;exact q
def vj:Option HO->Prop
 | some (.lst _)=>True
 | some (.dK _ _)=>True
 | some (.dT _ _)=>True
 | some (.set _ _)=>True
 | some (.ins _ _ _)=>True
 | some (.ext _)=>True
 | _=>False
section
variable {P:Program} {w:World} {H:Hp} {h h':Heap} {x e:Addr} {o':HO}
theorem gw.write(ok:gw P w H h)(mu:vj (H x))(he:e=x\/H e=some (.own x))(k:∀b u,b≠e->h.get? b=some u->h'.get? b=some u)(ql:∃u,h'.get? e=some u)
  (new:cJ P w (upd H x o') h' x o'):gw P w (upd H x o') h':=fun b u q=>by
 have sj:∀c y,H c=some (.own y)->c≠x:=fun c y r z=>by subst z;rw[r] at mu;exact mu
 have xR:∀c xs,H c=some (.tup xs)->c≠x:=fun c xs r z=>by subst z;rw[r] at mu;exact mu
 by_cases hb:b=x
 ·subst hb;rw[fq] at q;cases q;exact new
 ·rw[cA hb] at q;by_cases nr:b=e
  ·have q':H b=some (.own x):=by
    rcases he with z | z
    ·exact absurd (nr.trans z) hb
    ·rw[nr];exact z
   rw[q] at q';cases q';obtain⟨v,hv⟩:=ql;exact⟨v,by rw[nr];exact hv⟩
  ·refine(ok b u q).jy (fun c v hc r=>k c v ?_ r) (fun c r=>by rw[cA (sj c b r)];exact r) fun c xs r=>by rw[cA (xR c xs r)];exact r
   rcases hc with rfl | hc
   ·exact nr
   ·rintro rfl;rcases he with z | z
    ·exact sj c b hc z
    ·rw[hc] at z;cases z;exact hb rfl
end
structure Un (fs ex:List Addr) (H H':Hp) (h h':Heap):Prop where
 keep:∀b o,h.get? b=some o->H b=none->b∉fs->b∉ex->h'.get? b=some o
 slot:∀b o,h.get? b=some o->H b=none->b∈fs->b∉ex->∃sl,h'.get? b=some { o with slots:=sl }
 free:∀b o,h.get? b=some o->H b=none->b∉ex->H' b=none
 there:∀b o,h.get? b=some o->b∉ex->∃o',h'.get? b=some o'
 iU:∀b xs,H b=some (.tup xs)->H' b=some (.tup xs)
 ip:∀b o u,H b=some (.hX o u)->H' b=some (.hX o u)
 iV:∀b ps,H b=some (.oN ps)->∃more,H' b=some (.oN (ps++more))
section
variable {fs u9 ex MC:List Addr} {H H1 H2:Hp} {h h1 h2 h':Heap} {a x e:Addr} {o:HO}
theorem Un.any(u:Un fs ex H H1 h h1){b:Addr}{ob:Obj}(q:h.get? b=some ob)(n:H b=none)(hx:b∉ex):∃sl,h1.get? b=some { ob with slots:=sl }:=by
 by_cases hb:b∈fs
 ·exact u.slot b ob q n hb hx
 ·exact⟨ob.slots,u.keep b ob q n hb hx⟩
theorem Un.kept(k:∀b u,h.get? b=some u->h'.get? b=some u):Un fs ex H H h h':=
 ⟨fun b ob q _ _ _=>k b ob q,fun b ob q _ _ _=>⟨ob.slots,k b ob q⟩,fun _ _ _ n _=>n,fun b ob q _=>⟨ob,k b ob q⟩,fun _ _ q=>q,fun _ _ _ q=>q,fun _ ps q=>⟨#[],by rw[q];simp⟩⟩
theorem Un.refl:Un fs ex H H h h:=Un.kept fun _ _ q=>q
theorem Un.laid(k:∀b u,h.get? b=some u->h'.get? b=some u)(hp:h.objs.size<=a)(hn:H a=none):Un fs ex H (upd H a o) h h' where
 keep:=fun b u q _ _ _=>k b u q
 slot:=fun b u q _ _ _=>⟨u.slots,k b u q⟩
 free:=fun b u q n _=>by rw[cA (az (aE (aj q) hp))];exact n
 there:=fun b u q _=>⟨u,k b u q⟩
 iU:=fun b xs q=>by rw[cA (gO q hn)];exact q
 ip:=fun b u xs q=>by rw[cA (gO q hn)];exact q
 iV:=fun b ps q=>⟨#[],by rw[cA (gO q hn),q];simp⟩
theorem Un.write(mu:vj (H x))(he:e=x\/H e=some (.own x))(k:∀b u,b≠e->h.get? b=some u->h'.get? b=some u)(ql:∃u,h'.get? e=some u):Un fs ex H (upd H x o) h h':=by
 have hx:∀b,H b=none->b≠x:=fun b n z=>by subst z;rw[n] at mu;exact mu
 have hb:∀b,H b=none->b≠e:=fun b n z=>by
  subst z;rcases he with r | r
  ·exact hx b n r
  ·rw[n] at r;cases r
 have hm:∀b u,H b=some u->¬vj (some u)->b≠x:=fun b u q nm z=>by subst z;rw[q] at mu;exact nm mu
 refine⟨fun b u q n _ _=>k b u (hb b n) q,fun b u q n _ _=>⟨u.slots,k b u (hb b n) q⟩,fun b u q n _=>by rw[cA (hx b n)];exact n,fun b u q _=>?_,
  fun b xs q=>by rw[cA (hm b _ q fun z=>z)];exact q,fun b u xs q=>by rw[cA (hm b _ q fun z=>z)];exact q,fun b ps q=>⟨#[],by rw[cA (hm b _ q fun z=>z),q];simp⟩⟩
 by_cases nr:b=e
 ·subst nr;exact ql
 ·exact⟨u,k b u nr q⟩
end
noncomputable def uL(h:Heap)(H:Hp):List Addr:=(List.range h.objs.size).filter fun a=>(H a).isSome
noncomputable def mJ(h:Heap)(H:Hp):Heap:=PySem.W.hideAll h (uL h H)
theorem Hw(h:Heap)(H:Hp):(mJ h H).objs.size=h.objs.size:=PySem.W.hideAll_size _ _
theorem Hm{h:Heap}{H:Hp}{b:Addr}{o:Obj}(e:h.get? b=some o)(n:H b=none):(mJ h H).get? b=some o:=
 PySem.W.hideAll_get _ e fun hm=>by
  have q:(H b).isSome=true:=(List.mem_filter.mp hm).2;rw[n] at q;simp at q
theorem Fj{h:Heap}{H:Hp}{b:Addr}{o:Obj}(e:(mJ h H).get? b=some o):h.get? b=some o/\H b=none:=by
 have e':h.get? b=some o:=PySem.W.of_hideAll (uL h H) e;refine⟨e',?_⟩;cases q:H b with
 | none=>rfl
 | some x=>
  have hm:b∈uL h H:=List.mem_filter.mpr ⟨List.mem_range.mpr (aj e'),by simp[q]⟩;have z:(mJ h H).get? b=none:=PySem.W.hideAll_none (uL h H) hm;rw[z] at e;cases e
noncomputable def Fi(g h:Heap)(L:Addr):List (Addr×Obj):=(List.range h.objs.size).filterMap fun a=>if a=L\/(g.get? a).isSome=true then none else(h.get? a).map fun o=>(a,o)
noncomputable def eU(g h:Heap)(L d:Addr):List (Addr×Obj):=(Fi g h L).filter fun p=>decide (p.1≠d)
end L2
namespace L2
open PySem PySem.Spec PyProof.Rows
structure Mod (K:PySem.W.Frag) (mg:Str->Option Value) (base:Heap):Prop where
 qd:K.In base
 glob:base.Ns mainGlobals mg
 blt:∃mb,base.Ns builtinsNs mb/\∀x:Str,x≠"__name__"->mb x=bootBuiltins x
 nolimit:base.NoLimit
structure Cx where
 prog:Program
 w:World
 K:PySem.W.Frag
 mg:Str->Option Value
 base:Heap
 A:Around
 N:List Str
 cT:Shared
 lY:Hp
 env:Env
 outer:List Env
 stack:List Env
 ex:List Addr
 fn:Str->Bool
 calm:Bool
 pn:List (Addr×Obj)
 xe:Value->Shared->Prop
noncomputable def lN(l:List Env):List Addr:=l.filterMap (·.frame)
noncomputable abbrev Cx.fs(X:Cx):List Addr:=lN X.outer
def lT(sc:Scope)(x:Str):Prop:=sc.names.lookup x=some .local\/sc.names.lookup x=some .cell\/sc.names.lookup x=some .free
def Loc(sc:Scope)(x:Str):Prop:=sc.names.lookup x=some .local\/sc.names.lookup x=some .cell
def Look(env:Env)(h:Heap)(m:Str->Option Value)(x:Str)(u:Value):Prop:=
 (env.kindOf x=some .local/\m x=some u)\/((env.kindOf x=some .cell\/env.kindOf x=some .free)/\∃c,env.cells.lookup x=some c/\h.IsCell c (some u))
structure Cx.Ok (X:Cx):Prop where
 mod:Mod X.K X.mg X.base
 kind:X.env.scope.kind=.function
 glob:X.env.globals=mainGlobals
 blt:X.env.builtins=builtinsNs
 above:X.cT.heap.objs.size<=X.env.locals
 inj:∀x y c,X.env.cells.lookup x=some c->X.env.cells.lookup y=some c->x=y
 has:∀x,(X.env.kindOf x=some .cell\/X.env.kindOf x=some .free)->∃c,X.env.cells.lookup x=some c
 cab:∀x c,X.fn x=true->X.env.cells.lookup x=some c->X.cT.heap.objs.size<=c
 hd:X.calm=true->X.A.handled=none
 frames:X.A.frames=some X.stack
 uN:X.stack=X.outer\/(X.stack=X.env::X.outer/\X.env.frame=some X.env.locals)
 exf:∀b∈X.ex,b≠X.env.locals/\∀x c,X.env.cells.lookup x=some c->c≠b
 bs:∀b o,X.base.get? b=some o->X.cT.heap.get? b=some o/\X.lY b=none
 om:X.base.objs.size<=X.cT.heap.objs.size
 lz:∀b o,X.base.get? b=some o->b∉X.ex
 lP:∀b∈X.ex,b∉X.fs
 f7:X.cT.heap.FunFrames X.base X.outer
 pe:∀b∈X.fs,X.lY b=none
structure Inv (X:Cx) (pins:List (Addr×Obj)) (σ:List (Option V)) (H:Hp) (s:Shared):Prop where
 ok:X.Ok
 os:s.os=X.cT.os
 bare:AllBare s.gens
 base:Un X.fs X.ex X.lY H X.cT.heap s.heap
 loc:∃m,s.heap.Ns X.env.locals m/\∀(i:Nat) (x:Str) (v:V),X.N[i]?=some x->σ[i]?=some (some v)->lT X.env.scope x->∃u,RelV v u/\Look X.env s.heap m x u
 cell:∀x c,X.env.cells.lookup x=some c->∃v,s.heap.IsCell c v
 free:H X.env.locals=none
 eD:∀x c,X.env.cells.lookup x=some c->H c=none
 pin:∀p∈X.pn++pins,s.heap.get? p.1=some p.2/\H p.1=none/\p.1≠X.env.locals/\p.1∉X.fs/\∀v,p.2.data≠.cell v
 bX:gw X.prog X.w H s.heap
 len:σ.length=X.N.length
section
variable {X:Cx} {pins:List (Addr×Obj)} {σ:List (Option V)} {H H':Hp} {s:Shared} {h':Heap}
theorem Cx.Ok.xT(ok:X.Ok){b:Addr}{o:Obj}(e:X.base.get? b=some o):b∉X.fs:=fun hb=>by
 have:=(ok.f7.mem hb).1;rw[e] at this;cases this
theorem Inv.bs(I:Inv X pins σ H s):∀b o,X.base.get? b=some o->s.heap.get? b=some o/\H b=none:=fun b o e=>
 ⟨I.base.keep b o (I.ok.bs b o e).1 (I.ok.bs b o e).2 (I.ok.xT e) (I.ok.lz b o e),I.base.free b o (I.ok.bs b o e).1 (I.ok.bs b o e).2 (I.ok.lz b o e)⟩
theorem Inv.bk(I:Inv X pins σ H s):∀b o,X.base.get? b=some o->s.heap.get? b=some o:=fun b o e=>(I.bs b o e).1
theorem Inv.mod(I:Inv X pins σ H s):Mod X.K X.mg X.base:=I.ok.mod
theorem Inv.iI(I:Inv X pins σ H s):X.K.In s.heap:=I.ok.mod.qd.keeps I.bk
theorem Inv.lt(I:Inv X pins σ H s):X.env.locals<s.heap.objs.size:=let⟨_,hn,_⟩:=I.loc;hn.lt
theorem Inv.sz(I:Inv X pins σ H s):X.cT.heap.objs.size<=s.heap.objs.size:=aJ I.ok.above (Nat.le_of_lt I.lt)
theorem Inv.xS(I:Inv X pins σ H s){a:Addr}(h:s.heap.objs.size<=a):a∉X.fs:=fun hb=>by
 obtain⟨_,o,ho,_⟩:=I.ok.f7.mem hb;exact absurd (aE (aj ho) (aJ I.sz h)) (Nat.lt_irrefl _)
theorem Inv.pk(I:Inv X pins σ H s):∀x c,X.env.cells.lookup x=some c->c≠X.env.locals:=fun x c e z=>by
 obtain⟨v,o,ho,hd⟩:=I.cell x c e;obtain⟨m,⟨o',es,ep,o4,o8,_⟩,_⟩:=I.loc;rw[z,o4] at ho;cases ho;rw[o8] at hd;cases hd
theorem Inv.f7(I:Inv X pins σ H s):s.heap.FunFrames X.base X.outer:=by
 have all:∀(l:List Env),(∀b∈lN l,b∈X.fs)->X.cT.heap.FunFrames X.base l->s.heap.FunFrames X.base l:=by
  intro l;induction l with
  | nil=>intro _ _;trivial
  | cons env r ih=>
   intro hs hl;obtain⟨hk,⟨L,o,hf,hn,ho,hd⟩,hr⟩:=hl;have hL:L∈X.fs:=hs L (by unfold lN;rw[List.filterMap_cons,hf];exact List.mem_cons_self);obtain⟨sl,e⟩:=I.base.slot L o ho (I.ok.pe L hL) hL fun z=>I.ok.lP L z hL
   exact⟨hk,⟨L,_,hf,hn,e,hd⟩,ih (fun b hb=>hs b (by unfold lN;rw[List.filterMap_cons,hf];exact aM _ hb)) hr⟩
 exact all X.outer (fun _ hb=>hb) I.ok.f7
theorem Inv.stack(I:Inv X pins σ H s):s.heap.FunFrames X.base X.stack:=by
 rcases I.ok.uN with e | ⟨e,hf⟩
 ·rw[e];exact I.f7
 ·rw[e];obtain⟨m,hn,_⟩:=I.loc;refine .cons (by rw[I.ok.kind];decide) hf hn ?_ I.f7;exact Heap.get?_none_of_le (aJ I.ok.om I.ok.above)
theorem Inv.jx(I:Inv X pins σ H s):∀b∈lN X.stack,b∈X.env.locals::X.fs:=fun b hb=>by
 rcases I.ok.uN with e | ⟨e,hf⟩
 ·rw[e] at hb;exact aM _ hb
 ·rw[e] at hb;unfold lN at hb;rw[List.filterMap_cons,hf] at hb;exact hb
theorem Inv.jU(I:Inv X pins σ H s):∀b∈lN X.stack,H b=none:=fun b hb=>by
 rcases ai.mp (I.jx b hb) with e | hb
 ·rw[e];exact I.free
 ·obtain⟨_,o,ho,_⟩:=I.ok.f7.mem hb;exact I.base.free b o ho (I.ok.pe b hb) fun z=>I.ok.lP b z hb
theorem Inv.step{g':Array GenState}{t':Nat}{d':Drawn}{ch:List Addr}(I:Inv X pins σ H s)
  (kT:∀b∈ch,(b∈X.ex\/X.cT.heap.objs.size<=b)/\b≠X.env.locals/\(∀x c,X.env.cells.lookup x=some c->c≠b)/\∀p∈X.pn++pins,p.1≠b)
  (keep:∀b o,b≠X.env.locals->b∉X.fs->b∉ch->s.heap.get? b=some o->H b=none->h'.get? b=some o)
  (slot:∀b o,b≠X.env.locals->b∈X.fs->b∉ch->s.heap.get? b=some o->H b=none->∃sl,h'.get? b=some { o with slots:=sl }) (free:∀b o,b∉ch->s.heap.get? b=some o->H b=none->H' b=none)
  (there:∀b o,b∉ch->s.heap.get? b=some o->∃o',h'.get? b=some o')
  (iU:∀b xs,H b=some (.tup xs)->H' b=some (.tup xs)) (ip:∀b o u,H b=some (.hX o u)->H' b=some (.hX o u)) (iV:∀b ps,H b=some (.oN ps)->∃more,H' b=some (.oN (ps++more)))
  (ns:∀m,s.heap.Ns X.env.locals m->h'.Ns X.env.locals m) (bX:gw X.prog X.w H' h') (hg:AllBare g') :
  Inv X pins σ H' { s with heap:=h',gens:=g',drawn:=d',toks:=t' }:=by
 have BV:∀b o,X.cT.heap.get? b=some o->b≠X.env.locals:=fun b o e=>az (aE (aj e) I.ok.above)
 have uR:∀b o,X.cT.heap.get? b=some o->b∉X.ex->b∉ch:=fun b o e hx hb=>by
  rcases(kT b hb).1 with z | z
  ·exact hx z
  ·exact absurd (aE (aj e) z) (Nat.lt_irrefl _)
 have cellK:∀x c,X.env.cells.lookup x=some c->∀v,s.heap.IsCell c v->h'.IsCell c v:=fun x c e v ⟨o,ho,hd⟩=>by
  have sr:c∉ch:=fun z=>(kT c z).2.2.1 x c e rfl
  by_cases hc:c∈X.fs
  ·obtain⟨sl,q⟩:=slot c o (I.pk x c e) hc sr ho (I.eD x c e);exact⟨_,q,hd⟩
  ·exact⟨o,keep c o (I.pk x c e) hc sr ho (I.eD x c e),hd⟩
 refine⟨I.ok,I.os,hg,⟨fun b o e n hb hx=>?_,fun b o e n hb hx=>?_,fun b o e n hx=>?_,fun b o e hx=>?_,fun b xs e=>iU b xs (I.base.iU b xs e),fun b o xs e=>ip b o xs (I.base.ip b o xs e),fun b ps e=>?_⟩,?_,fun x c e=>?_,?_,fun x c e=>?_,fun p hp=>?_,bX,I.len⟩
 ·exact keep b o (BV b o e) hb (uR b o e hx) (I.base.keep b o e n hb hx) (I.base.free b o e n hx)
 ·obtain⟨sl,e1⟩:=I.base.slot b o e n hb hx;obtain⟨Km,e2⟩:=slot b _ (BV b o e) hb (uR b o e hx) e1 (I.base.free b o e n hx);exact⟨Km,e2⟩
 ·obtain⟨o',e1⟩:=I.base.there b o e hx;exact free b o' (uR b o e hx) e1 (I.base.free b o e n hx)
 ·obtain⟨o',e1⟩:=I.base.there b o e hx;exact there b o' (uR b o e hx) e1
 ·obtain⟨m1,e1⟩:=I.base.iV b ps e;obtain⟨m2,e2⟩:=iV b _ e1;exact⟨m1++m2,by rw[e2,Array.append_assoc]⟩
 ·obtain⟨m,hn,hl⟩:=I.loc;refine⟨m,ns m hn,fun i x v e1 e2 e3=>?_⟩;obtain⟨u,r,l⟩:=hl i x v e1 e2 e3;refine⟨u,r,?_⟩;rcases l with l | ⟨k,c,e,z⟩
  ·exact .inl l
  ·exact .inr ⟨k,c,e,cellK x c e _ z⟩
 ·obtain⟨v,z⟩:=I.cell x c e;exact⟨v,cellK x c e v z⟩
 ·obtain⟨m,⟨o,_,_,ho,_⟩,_⟩:=I.loc;exact free _ o (fun z=>(kT _ z).2.1 rfl) ho I.free
 ·obtain⟨v,o,ho,hd⟩:=I.cell x c e;exact free c o (fun z=>(kT c z).2.2.1 x c e rfl) ho (I.eD x c e)
 ·obtain⟨e,n,ne,nf,d⟩:=I.pin p hp;have sr:p.1∉ch:=fun z=>(kT p.1 z).2.2.2 p hp rfl
  exact⟨keep p.1 p.2 ne nf sr e n,free p.1 p.2 sr e n,ne,nf,d⟩
theorem Inv.un{t':Nat}(I:Inv X pins σ H s)(u:Un X.fs [] H H' s.heap h')(bX:gw X.prog X.w H' h'):Inv X pins σ H' { s with heap:=h',toks:=t' }:=by
 obtain⟨m,⟨o,es,ep,ho,r⟩,_⟩:=id I.loc;obtain⟨sl,hL⟩:=u.any ho I.free (by simp)
 exact I.step (g':=s.gens) (d':=s.drawn) (ch:=[]) (fun _ z=>nomatch z) (fun b o _ hb _ e n=>u.keep b o e n hb (by simp)) (fun b o _ hb _ e n=>u.slot b o e n hb (by simp)) (fun b o _ e n=>u.free b o e n (by simp)) (fun b o _ e=>u.there b o e (by simp)) u.iU u.ip u.iV (fun m' hm=>by
  obtain⟨o',bJ,eE,o4,r'⟩:=hm;rw[ho] at o4;cases o4;exact⟨_,bJ,eE,hL,r'⟩) bX I.bare
theorem Inv.call{g':Array GenState}{t':Nat}{d':Drawn}{ch:List Addr}(I:Inv X pins σ H s)(u:Un (lN X.stack) ch H H' s.heap h')(bX:gw X.prog X.w H' h')(hg:AllBare g')
  (kT:∀b∈ch,(b∈X.ex\/X.cT.heap.objs.size<=b)/\b≠X.env.locals/\(∀x c,X.env.cells.lookup x=some c->c≠b)/\∀p∈X.pn++pins,p.1≠b) :
  Inv X pins σ H' { s with heap:=h',gens:=g',drawn:=d',toks:=t' }:=by
 obtain⟨m,⟨o,es,ep,ho,r⟩,_⟩:=id I.loc;obtain⟨sl,hL⟩:=u.any ho I.free fun z=>(kT _ z).2.1 rfl
 exact I.step (ch:=ch) kT (fun b o hL hb hc e n=>u.keep b o e n (fun z=>(ai.mp (I.jx b z)).elim hL hb) hc) (fun b o _ _ hc e n=>u.any e n hc) (fun b o hc e n=>u.free b o e n hc) (fun b o hc e=>u.there b o e hc) u.iU u.ip u.iV (fun m' hm=>by
  obtain⟨o',bJ,eE,o4,r'⟩:=hm;rw[ho] at o4;cases o4;exact⟨_,bJ,eE,hL,r'⟩) bX hg
theorem Inv.turned{t':Nat}{it:Addr}(I:Inv X pins σ H s)(k:∀b o,b≠it->s.heap.get? b=some o->h'.get? b=some o)(hn:H it=none)(hL:it≠X.env.locals)
  (h1:it∈X.ex\/X.cT.heap.objs.size<=it) (h2:∀x c,X.env.cells.lookup x=some c->c≠it) (h3:∀p∈X.pn++pins,p.1≠it):Inv X pins σ H { s with heap:=h',toks:=t' }:=by
 have nY:∀b u,H b=some u->b≠it:=fun b u e z=>by rw[z,hn] at e;cases e
 refine I.step (g':=s.gens) (d':=s.drawn) (ch:=[it]) (fun b hb=>?_) (fun b o _ _ hc e _=>k b o (fun z=>hc (by simp[z])) e) (fun b o _ _ hc e _=>⟨o.slots,k b o (fun z=>hc (by simp[z])) e⟩) (fun _ _ _ _ n=>n)
  (fun b o hc e=>⟨o,k b o (fun z=>hc (by simp[z])) e⟩) (fun _ _ e=>e) (fun _ _ _ e=>e) (fun b ps e=>⟨#[],by rw[e];simp⟩) (fun m hm=>?_) (fun b u e=>?_) I.bare
 ·have e:b=it:=by simpa using hb
  subst e;exact⟨h1,hL,h2,h3⟩
 ·obtain⟨o,es,ep,ho,r⟩:=hm;exact⟨o,es,ep,k _ o (Ne.symm hL) ho,r⟩
 ·refine(I.bX b u e).jy (fun c v hc q=>k c v ?_ q) (fun _ q=>q) fun _ _ q=>q
  rcases hc with z | z
  ·rw[z];exact nY b u e
  ·exact nY c _ z
theorem Inv.tok(I:Inv X pins σ H s)(t:Nat):Inv X pins σ H { s with toks:=t }:=I.un (h':=s.heap) (t':=t) Un.refl I.bX
theorem Inv.kept{t':Nat}(I:Inv X pins σ H s)(k:∀b u,s.heap.get? b=some u->h'.get? b=some u):Inv X pins σ H { s with heap:=h',toks:=t' }:=I.un (Un.kept k) (I.bX.kept k)
theorem Inv.laid{a:Addr}{o:HO}{t':Nat}(I:Inv X pins σ H s)(k:∀b u,s.heap.get? b=some u->h'.get? b=some u)(hp:s.heap.objs.size<=a)(new:cJ X.prog X.w (upd H a o) h' a o) :
  Inv X pins σ (upd H a o) { s with heap:=h',toks:=t' }:=I.un (Un.laid k hp (I.bX.fresh hp)) (I.bX.laid k hp new)
theorem Inv.write{x e:Addr}{o:HO}{t':Nat}(I:Inv X pins σ H s)(mu:vj (H x))(he:e=x\/H e=some (.own x))(k:∀b u,b≠e->s.heap.get? b=some u->h'.get? b=some u)(ql:∃u,h'.get? e=some u)
  (new:cJ X.prog X.w (upd H x o) h' x o):Inv X pins σ (upd H x o) { s with heap:=h',toks:=t' }:=I.un (Un.write mu he k ql) (I.bX.write mu he k ql new)
theorem Inv.jV{nX:List (Addr×Obj)}(I:Inv X pins σ H s)(h:∀p∈nX,s.heap.get? p.1=some p.2/\H p.1=none/\p.1≠X.env.locals/\p.1∉X.fs/\∀v,p.2.data≠.cell v):Inv X nX σ H s:=
 ⟨I.ok,I.os,I.bare,I.base,I.loc,I.cell,I.free,I.eD,fun p hp=>(aA.mp hp).elim (fun z=>I.pin p (List.mem_append_left _ z)) (h p),I.bX,I.len⟩
theorem AV{N:List Str}(hN:N.Nodup){i j:Nat}{x:Str}(a:N[i]?=some x)(b:N[j]?=some x):i=j:=by
 obtain⟨h1,e1⟩:=ax.mp a;obtain⟨h2,e2⟩:=ax.mp b;exact(List.getElem_inj hN).mp (e1.trans e2.symm)
theorem Bb{M:Model}{A:Around}{E:Value->Shared->Prop}{i:Nat}{x:Str}{v:V}{u:Value}{Q:Unit->Shared->Prop}(I:Inv X pins σ H s)(hN:X.N.Nodup)(hi:X.N[i]?=some x)(hx:Loc X.env.scope x)(r:RelV v u)
  (h:∀s',Inv X pins (σ.set i (some v)) H s'->(∃a,Heap.SameBut a s.heap s'.heap/\(a=X.env.locals\/X.env.cells.lookup x=some a))->Q () s') (hf:X.fn x=true\/X.env.scope.names.lookup x=some .local:=by first | exact .inl rfl | exact .inr rfl | assumption):wpAny M A (storeName X.env x u) Q E s:=by
 obtain⟨m,hn,hl⟩:=id I.loc;have yH:(X.env.scope.kind==.class||(X.env.scope.kind==.module&&X.env.locals != X.env.globals))=false:=by rw[I.ok.kind];rfl
 have sX:i<σ.length:=by rw[I.len];exact(ax.mp hi).1
 have pk:=I.pk;have tracked:∀{a:Addr} {h':Heap},(∃o,s.heap.get? a=some o/\H a=none)->Heap.SameBut a s.heap h'->gw X.prog X.w H h':=fun{a h'} ha hs b ob e=>by
  obtain⟨_,_,cC⟩:=ha;refine(I.bX b ob e).jy (fun c w' hc q=>(hs.2 c ?_).trans q) (fun _ q=>q) fun _ _ q=>q
  rintro rfl;rcases hc with rfl | hc
  ·rw[cC] at e;cases e
  ·rw[cC] at hc;cases hc
 rcases hx with hk | hk
 ·refine wpAny_storeName_local hk hn (fun h' Li hs=>?_) yH;obtain⟨oL,_,_,sP,_⟩:=id hn;refine h _ ⟨I.ok,I.os,I.bare,⟨fun b o e n hb hx=>?_,fun b o e n hb hx=>?_,I.base.free,fun b o e hx=>?_,I.base.iU,I.base.ip,I.base.iV⟩,⟨_,Li,fun j y v' e1 e2 e3=>?_⟩,fun y c e=>?_,I.free,I.eD,fun p hp=>?_,tracked ⟨oL,sP,I.free⟩ hs,by simpa using I.len⟩ ⟨_,hs,.inl rfl⟩
  ·exact(hs.2 b (az (aE (aj e) I.ok.above))).trans (I.base.keep b o e n hb hx)
  ·obtain⟨sl,e1⟩:=I.base.slot b o e n hb hx;exact⟨sl,(hs.2 b (az (aE (aj e) I.ok.above))).trans e1⟩
  ·obtain⟨o',e1⟩:=I.base.there b o e hx;exact⟨o',(hs.2 b (az (aE (aj e) I.ok.above))).trans e1⟩
  ·by_cases hj:j=i
   ·subst hj;rw[hi] at e1;cases e1;rw[List.getElem?_set_self sX] at e2;cases e2;exact⟨u,r,.inl ⟨hk,by simp⟩⟩
   ·rw[List.getElem?_set_ne (Ne.symm hj)] at e2;obtain⟨u',r',q⟩:=hl j y v' e1 e2 e3;refine⟨u',r',?_⟩;rcases q with⟨k,e⟩ | ⟨k,c,e,z⟩
    ·refine .inl ⟨k,?_⟩;have:y≠x:=fun e=>hj (AV hN e1 (e▸hi))
     simp[this,e]
    ·exact .inr ⟨k,c,e,z.sameBut hs (pk y c e)⟩
  ·obtain⟨w',z⟩:=I.cell y c e;exact⟨w',z.sameBut hs (pk y c e)⟩
  ·obtain⟨e,n,ne,nf,d⟩:=I.pin p hp;exact⟨(hs.2 p.1 ne).trans e,n,ne,nf,d⟩
 ·have yE:X.fn x=true:=by
   rcases hf with z | z
   ·exact z
   ·rw[z] at hk;cases hk
  obtain⟨c,hc⟩:=I.ok.has x (.inl hk);obtain⟨w',z⟩:=I.cell x c hc;refine wpAny_storeName_cell I.ok.kind hk hc z (fun h' lK hs=>?_);obtain⟨oc,qi,yo⟩:=id z;refine h { s with heap:=h' } ⟨I.ok,I.os,I.bare,⟨fun b o e n hb hx=>?_,fun b o e n hb hx=>?_,I.base.free,fun b o e hx=>?_,I.base.iU,I.base.ip,I.base.iV⟩,⟨m,hn.sameBut hs (Ne.symm (pk x c hc)),fun j y v' e1 e2 e3=>?_⟩,fun y c' e=>?_,I.free,I.eD,fun p hp=>?_,tracked ⟨oc,qi,I.eD x c hc⟩ hs,by simpa using I.len⟩ ⟨c,hs,.inr hc⟩
  ·exact(hs.2 b (az (aE (aj e) (I.ok.cab x c yE hc)))).trans (I.base.keep b o e n hb hx)
  ·obtain⟨sl,e1⟩:=I.base.slot b o e n hb hx;exact⟨sl,(hs.2 b (az (aE (aj e) (I.ok.cab x c yE hc)))).trans e1⟩
  ·obtain⟨o',e1⟩:=I.base.there b o e hx;exact⟨o',(hs.2 b (az (aE (aj e) (I.ok.cab x c yE hc)))).trans e1⟩
  ·by_cases hj:j=i
   ·subst hj;rw[hi] at e1;cases e1;rw[List.getElem?_set_self sX] at e2;cases e2;exact⟨u,r,.inr ⟨.inl hk,c,hc,lK⟩⟩
   ·rw[List.getElem?_set_ne (Ne.symm hj)] at e2;obtain⟨u',r',q⟩:=hl j y v' e1 e2 e3;refine⟨u',r',?_⟩;rcases q with q | ⟨k,c',e,z'⟩
    ·exact .inl q
    ·refine .inr ⟨k,c',e,z'.sameBut hs ?_⟩;rintro rfl;exact hj (AV hN e1 (I.ok.inj _ _ _ e hc▸hi))
  ·by_cases Co:c'=c
   ·subst Co;exact⟨_,lK⟩
   ·obtain⟨w2,z2⟩:=I.cell y c' e;exact⟨w2,z2.sameBut hs Co⟩
  ·obtain⟨e,n,ne,nf,d⟩:=I.pin p hp;refine⟨(hs.2 p.1 ?_).trans e,n,ne,nf,d⟩;intro q;rw[q,qi] at e;have q':oc=p.2:=Option.some.inj e;exact d w' (by rw[<-q'];exact yo)
theorem AU{M:Model}{A:Around}{E:Value->Shared->Prop}{i:Nat}{x:Str}{v:V}{u:Value}{Q:Unit->Shared->Prop}(I:Inv X pins σ H s)(hN:X.N.Nodup)(hi:X.N[i]?=some x)(hx:Loc X.env.scope x)(r:RelV v u)
  (h:∀s',Inv X pins (σ.set i (some v)) H s'->Q () s') (hf:X.fn x=true\/X.env.scope.names.lookup x=some .local:=by first | exact .inl rfl | exact .inr rfl | assumption):wpAny M A (storeName X.env x u) Q E s:=
 Bb I hN hi hx r (fun s' I' _=>h s' I') hf
theorem Inv.tF{s':Shared}{ch:List Addr}(I:Inv X pins σ H s)(ho:s'.os=s.os)(u:Un (lN X.stack) ch H H' s.heap s'.heap)(bX:gw X.prog X.w H' s'.heap)(hg:AllBare s'.gens)
  (kT:∀b∈ch,(b∈X.ex\/X.cT.heap.objs.size<=b)/\b≠X.env.locals/\(∀x c,X.env.cells.lookup x=some c->c≠b)/\∀p∈X.pn++pins,p.1≠b):Inv X pins σ H' s':=by
 obtain⟨h',g',d',t',o'⟩:=s';have e:o'=s.os:=ho;subst e;exact I.call (g':=g') (t':=t') (d':=d') u bX hg kT
end
noncomputable abbrev XK:=Value->Option Addr->Hp->Prop
noncomputable abbrev St:=List (Option V)
noncomputable abbrev VK:=V->Hp->Prop
noncomputable abbrev TE:=St->Hp->VK->Prop
noncomputable abbrev TT:=St->Hp->(Bool->Hp->Prop)->Prop
noncomputable abbrev TA:=St->Hp->(List V->Hp->Prop)->Prop
structure Ends where
 nx:St->Hp->Prop
 rt:VK
 bk:St->Hp->Prop:=fun _ _=>False
 ct:St->Hp->Prop:=fun _ _=>False
noncomputable abbrev TS:=Ends->St->Hp->Prop
def EP(X:Cx)(pins:List (Addr×Obj))(σ:St)(Q:VK)(u:Value)(s':Shared):Prop:=∃v H',Inv X pins σ H' s'/\RelV v u/\Q v H'
def TP(X:Cx)(pins:List (Addr×Obj))(σ:St)(Q:Bool->Hp->Prop)(b:Bool)(s':Shared):Prop:=∃H',Inv X pins σ H' s'/\Q b H'
def AP(X:Cx)(pins:List (Addr×Obj))(σ:St)(Q:List V->Hp->Prop)(us:List Value)(s':Shared):Prop:=∃vs H',Inv X pins σ H' s'/\Vals vs us/\Q vs H'
def SP(X:Cx)(pins:List (Addr×Obj))(D:Ends)(f:Flow)(s':Shared):Prop:=
 match f with
 | .next=>∃bR H',Inv X pins bR H' s'/\D.nx bR H'
 | .brk=>∃bR H',Inv X pins bR H' s'/\D.bk bR H'
 | .cont=>∃bR H',Inv X pins bR H' s'/\D.ct bR H'
 | .ret u=>∃v bR H',Inv X pins bR H' s'/\RelV v u/\D.rt v H'
def PE(X:Cx)(e:Expr)(t:TE):Prop:=
 ∀(pins:List (Addr×Obj)) (s:Shared) (σ:St) (H:Hp) (Q:VK),Inv X pins σ H s->t σ H Q->wpAny (model X.prog X.w) X.A (eval e X.env) (EP X pins σ Q) X.xe s
def PT(X:Cx)(e:Expr)(t:TT):Prop:=
 ∀(pins:List (Addr×Obj)) (s:Shared) (σ:St) (H:Hp) (Q:Bool->Hp->Prop),Inv X pins σ H s->t σ H Q->wpAny (model X.prog X.w) X.A (isTrue e X.env (eval e X.env)) (TP X pins σ Q) X.xe s
def PW(X:Cx)(e:Expr)(t:TT):Prop:=
 ∀(whole:Sem Value) (pins:List (Addr×Obj)) (s:Shared) (σ:St) (H:Hp) (Q:Bool->Hp->Prop),Inv X pins σ H s->t σ H Q->wpAny (model X.prog X.w) X.A (isTrue e X.env whole) (TP X pins σ Q) X.xe s
theorem PW.pt{X:Cx}{e:Expr}{t:TT}(h:PW X e t):PT X e t:=h _
def PA(X:Cx)(es:List Expr)(t:TA):Prop:=
 ∀(pos:Pos) (pins:List (Addr×Obj)) (s:Shared) (σ:St) (H:Hp) (Q:List V->Hp->Prop),Inv X pins σ H s->t σ H Q->wpAny (model X.prog X.w) X.A (spliced (backTo pos (starEach es X.env))) (AP X pins σ Q) X.xe s
def PS(X:Cx)(st:Stmt)(t:TS):Prop:=
 ∀(pins:List (Addr×Obj)) (s:Shared) (σ:St) (H:Hp) (D:Ends),Inv X pins σ H s->t D σ H->wpAny (model X.prog X.w) X.A (exec st X.env) (SP X pins D) X.xe s
def j9(X:Cx)(st:List Stmt)(t:TS):Prop:=
 ∀(pins:List (Addr×Obj)) (s:Shared) (σ:St) (H:Hp) (D:Ends),Inv X pins σ H s->t D σ H->wpAny (model X.prog X.w) X.A (execs st X.env) (SP X pins D) X.xe s
theorem cf{α:Type}{t:Sem α}{Q Q':α->Shared->Prop}{M:Model}{A:Around}{E:Value->Shared->Prop}{s:Shared}(h:wpAny M A t Q E s)(hQ:∀a s,Q a s->Q' a s):wpAny M A t Q' E s:=wpAny_mono h hQ fun _ _ x=>x
end L2
namespace L2
open PySem PySem.Spec PyProof.Rows
section
variable {X:Cx}
theorem bin{a b:Expr}{ta tb:TE}(ha:PE X a ta)(hb:PE X b tb){pins:List (Addr×Obj)}{s:Shared}{σ:St}{H:Hp}{R:V->V->Hp->Prop}(I:Inv X pins σ H s)(h:ta σ H fun x H1=>tb σ H1 fun y H2=>R x y H2)
  {α:Type} {Q:α->Shared->Prop} {f:Value->Value->Sem α}
  (hf:∀v u s2 x y H2,Inv X pins σ H2 s2->RelV x v->RelV y u->R x y H2->wpAny (model X.prog X.w) X.A (f v u) Q X.xe s2) :
  wpAny (model X.prog X.w) X.A (eval a X.env) (fun v bI=>wpAny (model X.prog X.w) X.A (eval b X.env) (fun u gS=>wpAny (model X.prog X.w) X.A (f v u) Q X.xe gS) X.xe bI) X.xe s:=by
 refine cf (ha pins s σ H _ I h) fun v s1 bG=>?_
 obtain⟨x,H1,I1,r1,q1⟩:=bG;refine cf (hb pins s1 σ H1 _ I1 q1) fun u s2 bG=>?_
 obtain⟨y,H2,I2,r2,q2⟩:=bG;exact hf v u s2 x y H2 I2 r1 r2 q2
def Dr(i:Nat):TE:=fun σ H Q=>∃v,σ[i]?=some (some v)/\Q v H
def tC(v:V):TE:=fun _ H Q=>Q v H
theorem nP{i:Nat}{x:Str}{pos:Pos}(hN:X.N[i]?=some x)(hv:lT X.env.scope x)(hd:(x==("__debug__":Str))=false:=by decide)(fL:(x==("__classdict__":Str))=false:=by decide):PE X (.Name x pos) (Dr i):=by
 intro pins s σ H Q I h;obtain⟨v,e,h⟩:=h;obtain⟨m,hn,hl⟩:=I.loc;obtain⟨u,r,l⟩:=hl i x v hN e hv;have fin:EP X pins σ Q u s:=⟨v,H,I,r,h⟩
 rcases l with⟨hk,hm⟩ | ⟨hk,c,hc,oi⟩
 ·exact wpAny_Name (wpAny_loadName_local I.ok.kind hk hn hm fin) hd
 ·rcases hk with hk | hk
  ·exact wpAny_Name (wpAny_loadName_cell I.ok.kind hk hc oi fin) hd
  ·exact wpAny_Name (wpAny_loadName_free I.ok.kind hk hc oi fin fL) hd
theorem ET{i j pos}:PE X (.Constant (.int i) j pos) (tC (.int i)):=fun _ _ _ H _ I h=>wpAny_Constant_int ⟨.int i,H,I.tok _,⟨_,rfl⟩,h⟩
theorem DZ{b j pos}:PE X (.Constant (.bool b) j pos) (tC (.bl b)):=fun _ _ _ H _ I h=>Constant_bool ⟨.bl b,H,I,rfl,h⟩
theorem zZ{j pos}:PE X (.Constant .none j pos) (tC .non):=fun _ _ _ H _ I h=>Constant_none ⟨.non,H,I,rfl,h⟩
theorem ES{x j pos}:PE X (.Constant (.str x) j pos) (tC (.str x)):=fun _ _ _ H _ I h=>Calls.Constant_str ⟨.str x,H,I.tok _,⟨_,rfl⟩,h⟩
def Gl(X:Cx)(x:Str):Prop:=X.env.kindOf x=some .globalImplicit
theorem Aj{E:Value->Shared->Prop}{pins:List (Addr×Obj)}{s:Shared}{σ:St}{H:Hp}{x:Str}{u:Value}{pos:Pos}{Q:Value->Shared->Prop}(I:Inv X pins σ H s)(hg:Gl X x)(hm:X.mg x=some u)(h:Q u s)
  (hd:(x==("__debug__":Str))=false:=by decide):wpAny (model X.prog X.w) X.A (eval (.Name x pos) X.env) Q E s:=
 Calls.Name_function_global I.ok.kind hg (Calls.loadGlobal_global (by rw[I.ok.glob];exact I.mod.glob.keeps I.bk) hm h) hd
theorem k9{E:Value->Shared->Prop}{pins:List (Addr×Obj)}{s:Shared}{σ:St}{H:Hp}{x:Str}{u:Value}{pos:Pos}{Q:Value->Shared->Prop}(I:Inv X pins σ H s)(hg:Gl X x)(hm:X.mg x=none)(hv:bootBuiltins x=some u)(h:Q u s)
  (hn:x≠"__name__":=by decide) (hd:(x==("__debug__":Str))=false:=by decide):wpAny (model X.prog X.w) X.A (eval (.Name x pos) X.env) Q E s:=by
 obtain⟨mb,h1,h2⟩:=I.mod.blt;exact Calls.Name_function_global I.ok.kind hg (Calls.loadGlobal_builtin (by rw[I.ok.glob];exact I.mod.glob.keeps I.bk) hm (by rw[I.ok.blt];exact h1.keeps I.bk) ((h2 x hn).trans hv) h) hd
theorem Fh{x:Str}{v:V}{u:Value}{pos:Pos}(hg:Gl X x)(hm:X.mg x=none)(hv:bootBuiltins x=some u)(r:RelV v u)(hn:x≠"__name__":=by decide)(hd:(x==("__debug__":Str))=false:=by decide):PE X (.Name x pos) (tC v):=
 fun _ _ _ H _ I h=>k9 I hg hm hv ⟨v,H,I,r,h⟩ hn hd
variable {a b:Expr} {ta tb:TE} {pos:Pos}
def PC(X:Cx)(op:CmpOp)(a b:Expr)(t:TE):Prop:=
 ∀(pins:List (Addr×Obj)) (s:Shared) (σ:St) (H:Hp) (Q:VK),Inv X pins σ H s->t σ H Q->
  wpAny (model X.prog X.w) X.A (eval a X.env) (fun v bI=>wpAny (model X.prog X.w) X.A (eval b X.env) (fun u gS=>wpAny (model X.prog X.w) X.A (compareOp op v u) (EP X pins σ Q) X.xe gS) X.xe bI) X.xe s
theorem Hl(b:Expr){op:CmpOp}(h:op≠.In)(h2:op≠.NotIn):behindInMarks op b=false:=by
 have e1:(op==CmpOp.In)=false:=by cases op<;>first | rfl | exact absurd rfl h
 have e2:(op==CmpOp.NotIn)=false:=by cases op<;>first | rfl | exact absurd rfl h2
 cases b<;>simp[behindInMarks,e1,e2]
def tB(t:TE):TT:=fun σ H Q=>t σ H fun x H1=>∃c,x=.bl c/\Q c H1
theorem Md{op:CmpOp}{t:TE}(h:PC X op a b t)(h1:behindInMarks op b=false:=by first | exact Hl _ (by decide) (by decide) | rfl):PT X (.Compare a [op] [b] pos) (tB t):=by
 intro pins s σ H Q I hw;refine wpAny_isTrue_Compare1 (cf (h pins s σ H _ I hw) fun v s1 h1=>cf h1 fun u s2 h2=>cf h2 fun c s3 bG=>?_) h1;obtain⟨x,H1,I1,r1,q1⟩:=bG;obtain⟨d,rfl,q⟩:=q1;cases r1;exact wpAny_truthy_bool ⟨H1,I1,q⟩
theorem ER{e:Expr}{t:TE}(h:PE X e t)(he:∀whole,isTrue e X.env whole=(do let v <-whole;standAt e.pos;holding [v] (truthy v)):=by intro _;rfl):PT X e (tB t):=by
 intro pins s σ H Q I hw;refine isTrue_plain (cf (h pins s σ H _ I hw) fun v s1 bG=>?_) (he _);obtain⟨x,H1,I1,r1,q1⟩:=bG;obtain⟨d,rfl,q⟩:=q1;cases r1;exact wpAny_truthy_bool ⟨H1,I1,q⟩
variable {tA uM:TT} {eU:List Expr}
def Dq(t u:TT):TT:=fun σ H Q=>t σ H fun c H1=>if c=true then u σ H1 Q else Q false H1
def Kj(t u:TT):TT:=fun σ H Q=>t σ H fun c H1=>if c=true then Q true H1 else u σ H1 Q
def Dp(t:TT):TT:=fun σ H Q=>t σ H fun c H1=>Q (!c) H1
theorem Fg(ha:PT X a tA):PW X (.BoolOp .And [a] pos) tA:=by
 intro wh pins s σ H Q I h;refine isTrue_and (cf (ha pins s σ H Q I h) fun c s1 e=>?_);cases c with
 | true=>exact isTrue_and_nil e
 | false=>exact e
theorem EO(ha:PT X a tA):PW X (.BoolOp .Or [a] pos) tA:=by
 intro wh pins s σ H Q I h;refine isTrue_or (cf (ha pins s σ H Q I h) fun c s1 e=>?_);cases c with
 | false=>exact isTrue_or_nil e
 | true=>exact e
theorem EN(ha:PT X a tA)(hb:PW X (.BoolOp .And (b::eU) pos) uM):PW X (.BoolOp .And (a::b::eU) pos) (Dq tA uM):=by
 intro wh pins s σ H Q I h;refine isTrue_and (cf (ha pins s σ H _ I h) fun c s1 bG=>?_);obtain⟨H1,I1,q1⟩:=bG;cases c with
 | true=>exact hb wh pins s1 σ H1 Q I1 q1
 | false=>exact⟨H1,I1,q1⟩
theorem DY(ha:PT X a tA)(hb:PW X (.BoolOp .Or (b::eU) pos) uM):PW X (.BoolOp .Or (a::b::eU) pos) (Kj tA uM):=by
 intro wh pins s σ H Q I h;refine isTrue_or (cf (ha pins s σ H _ I h) fun c s1 bG=>?_);obtain⟨H1,I1,q1⟩:=bG;cases c with
 | true=>exact⟨H1,I1,q1⟩
 | false=>exact hb wh pins s1 σ H1 Q I1 q1
theorem EM(ha:PT X a tA):PT X (.UnaryOp .Not a pos) (Dp tA):=by
 intro pins s σ H Q I h;exact isTrue_not (ha pins s σ H (fun c H1=>Q (!c) H1) I h)
def DX(ta tb:TE):TE:=fun σ H Q=>ta σ H fun x H1=>∃c,x=.bl c/\if c=true then tb σ H1 Q else Q (.bl false) H1
theorem EL{op}{t:TE}(h:PE X a t):PE X (.BoolOp op [a] pos) t:=fun pins s σ H Q I hw=>BoolOp_one (h pins s σ H Q I hw)
theorem EK(ha:PE X a ta)(hb:PE X (.BoolOp .And (b::eU) pos) tb):PE X (.BoolOp .And (a::b::eU) pos) (DX ta tb):=by
 intro pins s σ H Q I h;refine BoolOp_and (cf (ha pins s σ H _ I h) fun v s1 bG=>?_);obtain⟨x,H1,I1,r1,q1⟩:=bG;obtain⟨c,rfl,q1⟩:=q1;cases r1;refine wpAny_truthy_bool ?_;cases c with
 | true=>exact hb pins s1 σ H1 Q I1 q1
 | false=>exact⟨.bl false,H1,I1,rfl,q1⟩
def Kk(t:TT)(ta tb:TE):TE:=fun σ H Q=>t σ H fun c H1=>if c=true then ta σ H1 Q else tb σ H1 Q
theorem Hk{c:Expr}(hc:PT X c tA)(ha:PE X a ta)(hb:PE X b tb):PE X (.IfExp c a b pos) (Kk tA ta tb):=by
 intro pins s σ H Q I h;refine wpAny_IfExp (cf (hc pins s σ H _ I h) fun d s1 bG=>?_);obtain⟨H1,I1,q1⟩:=bG;cases d with
 | true=>exact ha pins s1 σ H1 Q I1 q1
 | false=>exact hb pins s1 σ H1 Q I1 q1
end
end L2
namespace L2
open PySem PySem.Spec PyProof.Rows
def cN(K:PySem.W.Frag)(H:Hp)(a:Addr)(xs:List V):Prop:=
 Rd H a (.lst xs)\/
  ∃(o:Obj) (its:Array Value) (n:Nat),K.lookup a=some o/\o.cls=.type "list"/\o.dict=none/\o.data=.seq its n/\its.size<=sizeLine/\Vals xs its.toList
def da(K:PySem.W.Frag)(H:Hp)(a:Addr)(xs:List V):Prop:=
 Rd H a (.tup xs)\/
  ∃(o:Obj) (its:Array Value) (n:Nat),K.lookup a=some o/\o.cls=.type "tuple"/\o.data=.seq its n/\its.size<=sizeLine/\Vals xs its.toList
noncomputable def Dn:Value->Option V
 | .none=>some .non
 | .bool b=>some (.bl b)
 | .int i _=>some (.int i)
 | .str x _=>some (.str x)
 | .bytes b _=>some (.vd b)
 | .float b _=>some (.va b)
 | .ref a=>some (.ref a)
 | .type n=>some (.ty n)
 | _=>none
theorem RelV.abs{x:V}{u:Value}(r:RelV x u):Dn u=some x:=by
 cases x with
 | non=>cases r;rfl
 | bl _=>cases r;rfl
 | int _=>obtain⟨t,rfl⟩:=r;rfl
 | str _=>obtain⟨t,rfl⟩:=r;rfl
 | vd _=>obtain⟨t,rfl⟩:=r;rfl
 | va _=>obtain⟨t,rfl⟩:=r;rfl
 | ref _=>cases r;rfl
 | ty _=>cases r;rfl
theorem RelV.inj{x y:V}{u:Value}(r:RelV x u)(q:RelV y u):x=y:=Option.some.inj (r.abs.symm.trans q.abs)
theorem Vals.inj:∀{xs ys:List V} {us:List Value},Vals xs us->Vals ys us->xs=ys
 | _,_,_,.nil,.nil=>rfl
 | _,_,_,.cons r t,.cons r' t'=>by rw[r.inj r',Vals.inj t t']
section
variable {X:Cx} {pins:List (Addr×Obj)} {σ:St} {H:Hp} {s:Shared} {a:Addr} {xs ys:List V}
theorem cN.of{K:PySem.W.Frag}(h:H a=some (.lst xs)):cN K H a xs:=.inl (.inl h)
theorem da.of{K:PySem.W.Frag}(h:H a=some (.tup xs)):da K H a xs:=.inl (.inl h)
theorem Inv.list(I:Inv X pins σ H s)(h:cN X.K H a xs):∃its:List Value,Vals xs its/\PlainL s.heap a its.toArray/\xs.length<=sizeLine:=by
 rcases h with h | ⟨o,its,n,hk,hc,hd,hs,hz,r⟩
 ·obtain⟨z,its,n,r,e⟩:=h.ok I.bX;exact⟨its,r,⟨_,n,e,rfl,rfl,rfl⟩,z⟩
 ·refine⟨its.toList,r,⟨o,n,I.iI a o hk,hc,hd,by simpa using hs⟩,?_⟩;have e:=r.length;simp only[ak] at e;omega
theorem Inv.tuple(I:Inv X pins σ H s)(h:da X.K H a xs):∃its:List Value,Vals xs its/\IsTup s.heap a its.toArray/\xs.length<=sizeLine:=by
 rcases h with h | ⟨o,its,n,hk,hc,hs,hz,r⟩
 ·obtain⟨z,its,r,p⟩:=h.ok I.bX;exact⟨its,r,p,z⟩
 ·refine⟨its.toList,r,⟨o,I.iI a o hk,hc,n,by simpa using hs⟩,?_⟩;have e:=r.length;simp only[ak] at e;omega
theorem Inv.eC(I:Inv X pins σ H s)(h:cN X.K H a xs)(h':cN X.K H a ys):xs=ys:=by
 obtain⟨its,r,⟨o,n,e,_,_,d⟩,_⟩:=I.list h;obtain⟨its',r',⟨o',n',e',_,_,d'⟩,_⟩:=I.list h';rw[e] at e';cases e';rw[d] at d';injection d' with d1 _
 have:its=its':=by simpa using congrArg Array.toList d1
 subst this;exact r.inj r'
theorem Inv.hV(I:Inv X pins σ H s)(h:da X.K H a xs)(h':da X.K H a ys):xs=ys:=by
 obtain⟨its,r,⟨o,e,_,n,d⟩,_⟩:=I.tuple h;obtain⟨its',r',⟨o',e',_,n',d'⟩,_⟩:=I.tuple h';rw[e] at e';cases e';rw[d] at d';injection d' with d1 _
 have:its=its':=by simpa using congrArg Array.toList d1
 subst this;exact r.inj r'
end
noncomputable abbrev Cx.gQ(X:Cx)(E:Value->Shared->Prop):Cx:={ X with xe:=E }
noncomputable abbrev Cx.mn(X:Cx):Cx:=X.gQ fun _ _=>False
theorem Cx.Ok.gQ{X:Cx}(ok:X.Ok)(E:Value->Shared->Prop):(X.gQ E).Ok:=
 ⟨ok.mod,ok.kind,ok.glob,ok.blt,ok.above,ok.inj,ok.has,ok.cab,ok.hd,ok.frames,ok.uN,ok.exf,ok.bs,ok.om,ok.lz,ok.lP,ok.f7,ok.pe⟩
theorem Cx.Ok.eu{X:Cx}{E:Value->Shared->Prop}(ok:(X.gQ E).Ok):X.Ok:=
 ⟨ok.mod,ok.kind,ok.glob,ok.blt,ok.above,ok.inj,ok.has,ok.cab,ok.hd,ok.frames,ok.uN,ok.exf,ok.bs,ok.om,ok.lz,ok.lP,ok.f7,ok.pe⟩
section
variable {X:Cx} {pins:List (Addr×Obj)} {σ:St} {H:Hp} {s:Shared} {E:Value->Shared->Prop}
theorem Inv.gQ(I:Inv X pins σ H s)(E:Value->Shared->Prop):Inv (X.gQ E) pins σ H s:=⟨I.ok.gQ E,I.os,I.bare,I.base,I.loc,I.cell,I.free,I.eD,I.pin,I.bX,I.len⟩
theorem Inv.eu(I:Inv (X.gQ E) pins σ H s):Inv X pins σ H s:=⟨I.ok.eu,I.os,I.bare,I.base,I.loc,I.cell,I.free,I.eD,I.pin,I.bX,I.len⟩
theorem SP.eu{D:Ends}{f:Flow}{s':Shared}(h:SP (X.gQ E) pins D f s'):SP X pins D f s':=by
 cases f with
 | next=>obtain⟨bR,H',I,q⟩:=h;exact⟨bR,H',I.eu,q⟩
 | brk=>obtain⟨bR,H',I,q⟩:=h;exact⟨bR,H',I.eu,q⟩
 | cont=>obtain⟨bR,H',I,q⟩:=h;exact⟨bR,H',I.eu,q⟩
 | ret u=>obtain⟨v,bR,H',I,r,q⟩:=h;exact⟨v,bR,H',I.eu,r,q⟩
theorem j9.mn{st:List Stmt}{t:TS}(h:j9 X.mn st t):j9 X st t:=fun pins s σ H D I hw=>
 wpAny_mono (h pins s σ H D (I.gQ _) hw) (fun _ _ q=>q.eu) fun _ _ z=>False.elim z
end
section
variable {X:Cx} {st:Stmt} {eU:List Stmt} {t u:TS} {e:Expr} {te:TE} {pos:Pos}
def DW:TS:=fun D σ H=>D.nx σ H
def Dm(t u:TS):TS:=fun D σ H=>t { D with nx:=u D } σ H
theorem Ai:j9 X [] DW:=fun _ _ σ H _ I h=>wpAny_execs_nil ⟨σ,H,I,h⟩
theorem AS(h1:PS X st t)(h2:j9 X eU u):j9 X (st::eU) (Dm t u):=by
 intro pins s σ H D I h;refine wpAny_execs_cons (cf (h1 pins s σ H { D with nx:=u D } I h) fun f s1 q=>?_);cases f with
 | next=>
  obtain⟨bR,H',I',q⟩:=q;exact h2 pins s1 bR H' D I' q
 | ret v=>exact q
 | brk=>exact q
 | cont=>exact q
theorem Ff(h1:PS X st t):j9 X [st] t:=by
 intro pins s σ H D I h;refine wpAny_execs_cons (cf (h1 pins s σ H D I h) fun f s1 q=>?_);cases f with
 | next=>exact wpAny_execs_nil q
 | ret v=>exact q
 | brk=>exact q
 | cont=>exact q
theorem Inv.quiet{pins:List (Addr×Obj)}{σ:St}{H:Hp}{s:Shared}(I:Inv X pins σ H s):interactive X.env=false:=by simp[interactive,I.ok.kind]
def DV(te:TE):TS:=fun D σ H=>te σ H fun _ H1=>D.nx σ H1
theorem vY(he:PE X e te)(hs:swapsWith e none pos.line X.env=pure false:=by rfl):PS X (.Expr e pos) (DV te):=by
 intro pins s σ H D I h;exact wpAny_Expr_any (cf (he pins s σ H _ I h) fun v s1 bG=>by obtain⟨x,H1,I1,r1,q1⟩:=bG;exact⟨σ,H1,I1,q1⟩) I.quiet hs
def Dl(te:TE):TS:=fun D σ H=>te σ H D.rt
theorem zY(he:PE X e te):PS X (.Return (some e) pos) (Dl te):=by
 intro pins s σ H D I h;exact wpAny_Return_some (cf (he pins s σ H _ I h) fun v s1 bG=>by obtain⟨x,H1,I1,r1,q1⟩:=bG;exact⟨x,σ,H1,I1,r1,q1⟩)
def Dk(c:TT)(t u:TS):TS:=fun D σ H=>c σ H fun b H1=>if b=true then t D σ H1 else u D σ H1
theorem DU{c:Expr}{a b:List Stmt}{tc:TT}(hc:PT X c tc)(ha:j9 X a t)(hb:j9 X b u):PS X (.If c a b pos) (Dk tc t u):=by
 intro pins s σ H D I h;refine wpAny_If (cf (hc pins s σ H _ I h) fun d s1 bG=>?_);obtain⟨H1,I1,q1⟩:=bG;cases d with
 | true=>exact ha pins s1 σ H1 D I1 q1
 | false=>exact hb pins s1 σ H1 D I1 q1
end
noncomputable abbrev TG:=V->St->Hp->(St->Hp->Prop)->Prop
noncomputable abbrev nz:=List V->St->Hp->(St->Hp->Prop)->Prop
def PG(X:Cx)(target:Expr)(t:TG):Prop:=
 ∀(pins:List (Addr×Obj)) (s:Shared) (σ:St) (H:Hp) (v:V) (u:Value) (Q:St->Hp->Prop),Inv X pins σ H s->RelV v u->t v σ H Q->
  wpAny (model X.prog X.w) X.A (assign target X.env u) (fun _ s'=>∃bR H',Inv X pins bR H' s'/\Q bR H') X.xe s
def qw(X:Cx)(ts:List Expr)(t:nz):Prop:=
 ∀(pins:List (Addr×Obj)) (s:Shared) (σ:St) (H:Hp) (vs:List V) (us:List Value) (Q:St->Hp->Prop),Inv X pins σ H s->Vals vs us->t vs σ H Q->
  wpAny (model X.prog X.w) X.A (assignInOrder ((assignEach ts X.env).map (·.2)) us) (fun _ s'=>∃bR H',Inv X pins bR H' s'/\Q bR H') X.xe s
section
variable {X:Cx} {pos:Pos}
def vC(i:Nat):TG:=fun v σ H Q=>Q (σ.set i (some v)) H
theorem Fe{i:Nat}{x:Str}(hN:X.N.Nodup)(hi:X.N[i]?=some x)(hx:Loc X.env.scope x)(hf:X.fn x=true\/X.env.scope.names.lookup x=some .local:=by first | exact .inl rfl | exact .inr rfl | assumption):PG X (.Name x pos) (vC i):=by
 intro pins s σ H v u Q I r h;exact wpAny_assign_Name (AU I hN hi hx r (fun s' I'=>⟨_,H,I',h⟩) hf)
noncomputable def Dj:nz:=fun vs σ H Q=>vs=[]/\Q σ H
noncomputable def DT(t:TG)(u:nz):nz:=fun vs σ H Q=>∃v r,vs=v::r/\t v σ H fun bR H'=>u r bR H' Q
theorem Fd:qw X [] Dj:=by
 intro pins s σ H vs us Q I r h;obtain⟨e,h⟩:=h;subst e;cases r;exact assignInOrder_nil ⟨σ,H,I,h⟩
theorem Hj{e:Expr}{es:List Expr}{t:TG}{u:nz}(h1:PG X e t)(h2:qw X es u)
  (hs:(assignEach (e::es) X.env).map (·.2)=assign e X.env::(assignEach es X.env).map (·.2):=by rfl):qw X (e::es) (DT t u):=by
 intro pins s σ H vs us Q I r h;obtain⟨v,vr,e1,h⟩:=h;subst e1;cases r with
 | cons r rr=>
  rw[hs];refine assignInOrder_cons (cf (h1 pins s σ H _ _ _ I r h) fun _ s1 bG=>?_);obtain⟨CQ,H1,I1,q1⟩:=bG;exact h2 pins s1 CQ H1 _ _ Q I1 rr q1
def Di(K:PySem.W.Frag)(n:Nat)(t:nz):TG:=fun v σ H Q=>∃a xs,v=.ref a/\da K H a xs/\xs.length=n/\t xs σ H Q
theorem EJ{es:List Expr}{k:Nat}{t:nz}{n:Nat}(hc:X.calm=true)(h:qw X es t)
  (hn:(assignEach es X.env).length=n:=by rfl) (gJ:(assignEach es X.env).findIdx? (·.1)=none:=by rfl):PG X (.Tuple es k pos) (Di X.K n t):=by
 intro pins s σ H v u Q I r hw;obtain⟨a,xs,e1,hq,hl,hw⟩:=hw;subst e1;cases r;obtain⟨its,rv,ht,hz⟩:=I.tuple hq;refine assign_Tuple_tuple (I.ok.hd hc) ht (by simp[hn,<-hl,rv.length]) gJ fun h' hx=>?_
 have I1:Inv X pins σ H { s with heap:=h' }:=I.kept (t':=s.toks) fun b o e=>hx b o (az (aj e)) e
 exact h pins _ σ H xs _ Q I1 (by simpa using rv) hw
def vx(te:TE)(g:TG):TS:=fun D σ H=>te σ H fun x H1=>g x σ H1 D.nx
theorem EI{tg e:Expr}{te:TE}{g:TG}(he:PE X e te)(hg:PG X tg g)(hs:swapsWithSole [tg] e pos.line X.env=pure false:=by rfl)(hw:swappedStores [tg] e X.env=pure none:=by rfl)
  (h1:(assignEach [tg] X.env).map (·.2)=[assign tg X.env]:=by rfl):PS X (.Assign [tg] e pos) (vx te g):=by
 intro pins s σ H D I h;refine wpAny_Assign_stores (cf (he pins s σ H _ I h) fun v s1 bG=>?_) hs hw;obtain⟨x,H1,I1,r1,q1⟩:=bG;rw[h1];exact cf (hg pins s1 σ H1 x v _ I1 r1 q1) fun _ s2 q=>q
theorem zX{i:Nat}{x:Str}{e:Expr}{te:TE}{pos':Pos}(hN:X.N.Nodup)(hi:X.N[i]?=some x)(hx:Loc X.env.scope x)(he:PE X e te)(hs:swapsWith e (some (.Name x pos')) pos.line X.env=pure false:=by rfl)(hf:X.fn x=true\/X.env.scope.names.lookup x=some .local:=by first | exact .inl rfl | exact .inr rfl | assumption) :
  PS X (.Assign [.Name x pos'] e pos) (vx te (vC i)):=by
 intro pins s σ H D I h;refine wpAny_Assign_Name (cf (he pins s σ H _ I h) fun v s1 bG=>?_) hs;obtain⟨y,H1,I1,r1,q1⟩:=bG;exact AU I1 hN hi hx r1 (fun s2 I2=>⟨_,H1,I2,q1⟩) hf
end
structure It where
 go:Nat->Hp->Prop
 uH:Nat->Hp->V->Hp->Prop
 stop:Nat->Hp->Prop
def gc(X:Cx)(pins:List (Addr×Obj))(H:Hp)(b:Addr):Prop:=
 H b=none/\b≠X.env.locals/\b∉X.fs/\(b∈X.ex\/X.cT.heap.objs.size<=b)/\(∀x c,X.env.cells.lookup x=some c->c≠b)/\∀p∈X.pn++pins,p.1≠b
theorem Inv.i9{X:Cx}{pins:List (Addr×Obj)}{σ:St}{H H':Hp}{s:Shared}{b:Addr}(I:Inv X pins σ H s)(hb:s.heap.objs.size<=b)(hn:H' b=none):gc X pins H' b:=by
 refine⟨hn,Nat.ne_of_gt (aE I.lt hb),I.xS hb,.inr (aJ I.sz hb),fun x c e z=>?_,fun p hp z=>?_⟩
 ·obtain⟨v,q⟩:=I.cell x c e;exact absurd (aE q.lt (by rw[z];exact hb)) (Nat.lt_irrefl _)
 ·exact absurd (aE (aj (I.pin p hp).1) (by rw[z];exact hb)) (Nat.lt_irrefl _)
structure Turn (P:Program) (w:World) (K:PySem.W.Frag) (tg:Expr) (J:It) (fp:List Addr) (it:Addr) (tn:Nat->Heap->Prop):Prop where
 mem:it∈fp
 obj:∀i h,tn i h->∀b∈fp,∃o,h.get? b=some o/\∀v,o.data≠.cell v
 keep:∀i h h',tn i h->(∀b∈fp,∀o,h.get? b=some o->h'.get? b=some o)->tn i h'
 item:∀(X:Cx),X.prog=P->X.w=w->X.K=K->X.calm=true->∀(i:Nat) (pins:List (Addr×Obj)) (s:Shared) (σ:St) (H:Hp) (E:Value->Shared->Prop),Inv X pins σ H s->(∀b∈fp,gc X pins H b)->tn i s.heap->J.go i H->
  wpAny (model P w) X.A (pyNext (.ref it)) (fun r s1=>∃u,r=some u/\
   wpAny (model P w) X.A (letOwnedTupleGo tg (.ref it) u) (fun _ s2=>∃x H',Inv X pins σ H' s2/\RelV x u/\J.uH i H x H'/\tn (i+1) s2.heap/\∀b∈fp,H' b=none) E s1) E s
 done:∀(X:Cx),X.prog=P->X.w=w->X.K=K->X.calm=true->∀(i:Nat) (pins:List (Addr×Obj)) (s:Shared) (σ:St) (H:Hp) (E:Value->Shared->Prop),Inv X pins σ H s->(∀b∈fp,gc X pins H b)->tn i s.heap->J.stop i H->
  wpAny (model P w) X.A (pyNext (.ref it)) (fun r s1=>r=none/\Inv X pins σ H s1) E s
 self:∀(A:Around) (i:Nat) (s:Shared) (Q:Value->Shared->Prop) (E:Value->Shared->Prop),tn i s.heap->Q (.ref it) s->wpAny (model P w) A (pyIter (.ref it)) Q E s
noncomputable abbrev TI:=St->Hp->(It->Hp->Prop)->Prop
def vi(X:Cx)(pins:List (Addr×Obj))(σ:St)(tg:Expr)(R:It->Hp->Prop)(xX:Value)(s2:Shared):Prop:=
 ∃(it:Addr) (fp:List Addr) (tn:Nat->Heap->Prop) (J:It) (H':Hp),xX=.ref it/\Inv X pins σ H' s2/\Turn X.prog X.w X.K tg J fp it tn/\tn 0 s2.heap/\(∀b∈fp,gc X pins H' b)/\R J H'
def PI(X:Cx)(tg iter:Expr)(wi:TI):Prop:=
 ∀(pins:List (Addr×Obj)) (s:Shared) (σ:St) (H:Hp) (R:It->Hp->Prop),Inv X pins σ H s->wi σ H R->
  wpAny (model X.prog X.w) X.A (eval iter X.env) (fun v s1=>wpAny (model X.prog X.w) X.A (pyIter v) (vi X pins σ tg R) X.xe s1) X.xe s
theorem tY{M:Model}{A:Around}{E:Value->Shared->Prop}{s:Shared}{tg:Expr}{it:Addr}{u:Value}{o:Obj}{n:String}{vs:Array Value}{Q:Unit->Shared->Prop}(ho:s.heap.get? it=some o)(hc:o.cls=.type n)(hd:o.data=.fields vs)
  (hn:["enumerate","zip","dict_itemiterator","dict_reverseitemiterator","odict_iterator","itertools.zip_longest","itertools.pairwise"].contains n=false) (hQ:Q () s):wpAny M A (letOwnedTupleGo tg (.ref it) u) Q E s:=by
 unfold letOwnedTupleGo;cases tg<;>first
  | exact ab hQ
  | (cases u<;>first
    | exact ab hQ
    | (refine aa (wpAny_load ho ?_)
       rw[hc,hd];show wpAny M A (if (["enumerate","zip","dict_itemiterator","dict_reverseitemiterator","odict_iterator","itertools.zip_longest","itertools.pairwise"].contains n&&vs[0]?==some (rawInt _))=true then _ else _) Q E s;rw[if_neg (by intro h;rw[hn,Bool.false_and] at h;cases h)];exact ab hQ))
noncomputable def y9(K:PySem.W.Frag)(a:Addr):It:=
 ⟨fun i H=>∃xs x,cN K H a xs/\xs[i]?=some x,fun i H x H'=>H'=H/\∀xs,cN K H a xs->xs[i]?=some x,fun i H=>∃xs,cN K H a xs/\xs.length<=i⟩
noncomputable def y8(K:PySem.W.Frag)(a:Addr):It:=
 ⟨fun i H=>∃xs x,da K H a xs/\xs[i]?=some x,fun i H x H'=>H'=H/\∀xs,da K H a xs->xs[i]?=some x,fun i H=>∃xs,da K H a xs/\xs.length<=i⟩
noncomputable def vm(lo:Int)(n:Nat):It:=⟨fun i _=>i<n,fun i H x H'=>H'=H/\x=.int (lo+i),fun i _=>n<=i⟩
theorem Hv{P:Program}{w:World}{K:PySem.W.Frag}{tg:Expr}(a it:Addr):Turn P w K tg (y9 K a) [it] it (fun i h=>h.IsListIter it a i) where
 mem:=by simp
 obj:=fun i h st b hb=>by
  have e:b=it:=by simpa using hb
  subst e;obtain⟨o,e,c,d⟩:=st;exact⟨o,e,fun v z=>by rw[d] at z;cases z⟩
 keep:=fun i h h' st k=>st.at fun o e=>k it (by simp) o e
 item:=by
  intro X hP hw hK hc i pins s σ H E I hf st hg;subst hP hw hK;obtain⟨xs,x,hq,hx⟩:=hg;obtain⟨its,rv,p,hz⟩:=I.list hq;obtain⟨u,hu,ru⟩:=rv.get hx;obtain⟨f0,f1,f2,f3,f4,f5⟩:=hf it (by simp);refine wpAny_pyNext_list_item st p.isList (x:=u) (by simpa using hu) fun h' iW sb=>?_
  have I1:Inv X pins σ H { s with heap:=h' }:=I.turned (t':=s.toks) (fun b o hb e=>(sb.2 b hb).trans e) f0 f1 f3 f4 f5;obtain⟨o,e,c,d⟩:=id iW;exact⟨u,rfl,tY (s:={ s with heap:=h' }) e c d (by decide) ⟨x,H,I1,ru,⟨rfl,fun ys hy=>by rw[I.eC hy hq];exact hx⟩,iW,fun b hb=>(hf b hb).1⟩⟩
 done:=by
  intro X hP hw hK hc i pins s σ H E I hf st hg;subst hP hw hK;obtain⟨xs,hq,hx⟩:=hg;obtain⟨its,rv,p,hz⟩:=I.list hq;obtain⟨f0,f1,f2,f3,f4,f5⟩:=hf it (by simp);have hl:=rv.length;exact wpAny_pyNext_list_end (I.ok.hd hc) st p.isList (by simp;omega) fun h' eb=>⟨rfl,I.turned (t':=s.toks) (fun b o hb e=>eb b o hb e) f0 f1 f3 f4 f5⟩
 self:=fun _ _ _ _ _ st h=>wpAny_pyIter_listiter st h
theorem Ij{P:Program}{w:World}{K:PySem.W.Frag}{tg:Expr}(a it:Addr):Turn P w K tg (y8 K a) [it] it (fun i h=>h.IsTupleIter it a i) where
 mem:=by simp
 obj:=fun i h st b hb=>by
  have e:b=it:=by simpa using hb
  subst e;obtain⟨o,e,c,d⟩:=st;exact⟨o,e,fun v z=>by rw[d] at z;cases z⟩
 keep:=fun i h h' st k=>st.at fun o e=>k it (by simp) o e
 item:=by
  intro X hP hw hK hc i pins s σ H E I hf st hg;subst hP hw hK;obtain⟨xs,x,hq,hx⟩:=hg;obtain⟨its,rv,p,hz⟩:=I.tuple hq;obtain⟨u,hu,ru⟩:=rv.get hx;obtain⟨f0,f1,f2,f3,f4,f5⟩:=hf it (by simp);refine wpAny_pyNext_tuple_item st (show s.heap.IsTuple a its.toArray from p) (x:=u) (by simpa using hu) fun h' iW sb=>?_
  have I1:Inv X pins σ H { s with heap:=h' }:=I.turned (t':=s.toks) (fun b o hb e=>(sb.2 b hb).trans e) f0 f1 f3 f4 f5;obtain⟨o,e,c,d⟩:=id iW;exact⟨u,rfl,tY (s:={ s with heap:=h' }) e c d (by decide) ⟨x,H,I1,ru,⟨rfl,fun ys hy=>by rw[I.hV hy hq];exact hx⟩,iW,fun b hb=>(hf b hb).1⟩⟩
 done:=by
  intro X hP hw hK hc i pins s σ H E I hf st hg;subst hP hw hK;obtain⟨xs,hq,hx⟩:=hg;obtain⟨its,rv,p,hz⟩:=I.tuple hq;obtain⟨f0,f1,f2,f3,f4,f5⟩:=hf it (by simp);have hl:=rv.length;exact wpAny_pyNext_tuple_end (I.ok.hd hc) st (show s.heap.IsTuple a its.toArray from p) (by simp;omega) fun h' eb=>⟨rfl,I.turned (t':=s.toks) (fun b o hb e=>eb b o hb e) f0 f1 f3 f4 f5⟩
 self:=fun _ _ _ _ _ st h=>wpAny_pyIter_tupleiter st h
theorem Ii{P:Program}{w:World}{K:PySem.W.Frag}{tg:Expr}(it:Addr)(lo:Int)(n:Nat):Turn P w K tg (vm lo n) [it] it (fun i h=>IsRangeIter h it (lo+(i:Nat)*1) ((n:Int)-(i:Nat)) 1) where
 mem:=by simp
 obj:=fun i h st b hb=>by
  have e:b=it:=by simpa using hb
  subst e
  exact⟨_,st,fun v z=>by
   have z':Data.fields _=Data.cell v:=z;cases z'⟩
 keep:=fun i h h' st k=>k it (by simp) _ st
 item:=by
  intro X hP hw hK hc i pins s σ H E I hf st hg;subst hP hw hK;obtain⟨f0,f1,f2,f3,f4,f5⟩:=hf it (by simp);have W:=Walks.range (prog:=X.prog) (w:=X.w) (I.ok.hd hc) it lo 1 n;refine W.item i s _ _ hg st fun v h' tk hv iW kk=>?_
  obtain⟨t,rfl⟩:=hv;have I1:Inv X pins σ H { s with heap:=h',toks:=tk }:=I.turned (fun b o hb e=>kk b o (by simpa using hb) e) f0 f1 f3 f4 f5;refine⟨_,rfl,tY (s:={ s with heap:=h',toks:=tk }) (n:="range_iterator") iW rfl rfl (by decide) ⟨.int (lo+i),H,I1,⟨t,?_⟩,⟨rfl,rfl⟩,iW,fun b hb=>(hf b hb).1⟩⟩;rw[Int.mul_one]
 done:=by
  intro X hP hw hK hc i pins s σ H E I hf st hg;subst hP hw hK;obtain⟨f0,f1,f2,f3,f4,f5⟩:=hf it (by simp);exact wpAny_pyNext_range_end (I.ok.hd hc) st (by have:n<=i:=hg;omega) fun h' eb=>⟨rfl,I.turned (t':=s.toks) (fun b o hb e=>eb b o hb e) f0 f1 f3 f4 f5⟩
 self:=fun _ _ _ _ _ st h=>wpAny_pyIter_rangeiter st h
end L2
namespace L2
open PySem PySem.Spec PyProof.Rows
section
variable {X:Cx} {tg:Expr}
theorem Hi{pins:List (Addr×Obj)}{σ:St}{H:Hp}{s:Shared}{R:It->Hp->Prop}{E:Value->Shared->Prop}{lo hi:Int}{t u v:Tok}{tk:Nat}(I:Inv X pins σ H s)(h1:-(2 ^ 62)<=lo)(h2:lo<2 ^ 62)(h3:-(2 ^ 62)<=hi)(h4:hi<2 ^ 62)
  (q:R (vm lo (hi-lo).toNat) H):wpAny (model X.prog X.w) X.A (pyIter (.ref s.heap.objs.size)) (vi X pins σ tg R) E { s with heap:=s.heap.push { cls:=.type "range",data:=.fields #[.int lo t,.int hi u,.int 1 v] },toks:=tk }:=by
 refine wpAny_pyIter_range (IsRange.new ..) (small_one h1 h2 h3 h4) ?_;have I1:Inv X pins σ H { s with heap:=s.heap.push { cls:=.type "range",data:=.fields #[.int lo t,.int hi u,.int 1 v] },toks:=tk }:=I.kept fun b o e=>ae _ e
 refine⟨(s.heap.push { cls:=.type "range",data:=.fields #[.int lo t,.int hi u,.int 1 v] }).objs.size,[(s.heap.push { cls:=.type "range",data:=.fields #[.int lo t,.int hi u,.int 1 v] }).objs.size],_,_,H,rfl,
  I1.kept (t':=tk) fun b o e=>ae _ e,Ii _ lo (hi-lo).toNat,?_,fun b hb=>?_,q⟩
 ·have e1:lo+((0:Nat):Int)*1=lo:=by simp
  have e2:(((hi-lo).toNat:Nat):Int)-((0:Nat):Int)=Builtin.Range.rangeSize lo hi 1:=by rw[rangeSize_one];split<;>omega
  show IsRangeIter _ _ (lo+((0:Nat):Int)*1) ((((hi-lo).toNat:Nat):Int)-((0:Nat):Int)) 1;rw[e1,e2];exact ao _ rfl
 ·have e:b=(s.heap.push { cls:=.type "range",data:=.fields #[.int lo t,.int hi u,.int 1 v] }).objs.size:=by simpa using hb
  subst e;exact I1.i9 (aq _) (I1.bX.fresh (aq _))
def DS(ta:TA):TI:=fun σ H R=>ta σ H fun vs H1=>∃j:Int,vs=[.int j]/\-(2 ^ 62)<=j/\j<2 ^ 62/\R (vm 0 j.toNat) H1
theorem Hu{a:Expr}{ta:TA}{p pos:Pos}(hg:Gl X "range")(hm:X.mg "range"=none)(ha:PA X [a] ta)(hs:starEach [a] X.env=[(false,eval a X.env)]:=by rfl):PI X tg (.Call (.Name "range" p) [a] [] pos) (DS ta):=by
 intro pins s σ H R I h;refine Call_ (k9 I hg hm boot_range (PyProof.Rows.callWith_type1 (cf (ha pos pins s σ H _ I h) fun us s1 bG=>?_) hs rfl));obtain⟨vs,H1,I1,r1,q1⟩:=bG;obtain⟨j,e,q1,q2,q⟩:=q1;subst e;cases r1 with
 | cons r rr=>
  cases rr;obtain⟨t,rfl⟩:=r;exact call_range_1 (Hi I1 (by omega) (by omega) q1 q2 (by simpa using q))
def Dh(wi:TI)(g:TG)(tb:TS):TS:=fun D σ H=>wi σ H fun J H1=>∃W:Nat->Nat->St->Hp->Prop,(∃m,W 0 m σ H1)/\∀i m σ H,W i m σ H->
 (J.stop i H/\D.nx σ H)\/(J.go i H/\∃N:St->Hp->Prop,(∀bR H',N bR H'->∃m',m'<m/\W (i+1) m' bR H')/\∀x H',J.uH i H x H'->g x σ H' fun jO H2=>tb { D with nx:=N,ct:=N,bk:=D.nx } jO H2)
noncomputable def qP(fp:List Addr)(h:Heap):List (Addr×Obj):=fp.filterMap fun b=>(h.get? b).map fun o=>(b,o)
theorem rC{fp:List Addr}{h:Heap}{b:Addr}{o:Obj}(hb:b∈fp)(e:h.get? b=some o):(b,o)∈qP fp h:=List.mem_filterMap.mpr ⟨b,hb,by rw[e];rfl⟩
theorem Ht{fp:List Addr}{h:Heap}{p:Addr×Obj}(hp:p∈qP fp h):p.1∈fp/\h.get? p.1=some p.2:=by
 obtain⟨b,hb,e⟩:=List.mem_filterMap.mp hp;cases q:h.get? b with
 | none=>rw[q] at e;cases e
 | some o=>
  rw[q] at e;have e':(b,o)=p:=Option.some.inj e;subst e';exact⟨hb,q⟩
theorem Inv.pinned{pins:List (Addr×Obj)}{σ:St}{H:Hp}{s:Shared}{fp:List Addr}(I:Inv X pins σ H s)(hf:∀b∈fp,gc X pins H b)(ho:∀b∈fp,∃o,s.heap.get? b=some o/\∀v,o.data≠.cell v):Inv X (pins++qP fp s.heap) σ H s:=
 I.jV fun p hp=>(aA.mp hp).elim (fun z=>I.pin p (aI _ z)) fun z=>by
  obtain⟨hb,e⟩:=Ht z;obtain⟨f0,f1,f2,_⟩:=hf p.1 hb;obtain⟨o,e',d⟩:=ho p.1 hb;rw[e] at e';cases e';exact⟨e,f0,f1,f2,d⟩
theorem Inv.eA{pins pl:List (Addr×Obj)}{σ:St}{H:Hp}{s:Shared}(I:Inv X (pins++pl) σ H s):Inv X pins σ H s:=I.jV fun p hp=>I.pin p (aI _ (List.mem_append_left _ hp))
theorem EH{iter:Expr}{body:List Stmt}{wi:TI}{g:TG}{tb:TS}{pos:Pos}(hp:PassesOwn (model X.prog X.w) X.A X.env X.xe)(hc:X.calm=true)(hi:PI X tg iter wi)(hg:PG X tg g)(hb:j9 X body tb)
  (hs:∀x,foldedSetIterable iter X.env x=pure x:=by intro _;rfl):PS X (.For tg iter body [] pos) (Dh wi g tb):=by
 intro pins s σ H D I h;refine wpAny_For (cf (hi pins s σ H _ I h) fun v s1 h1=>cf h1 fun xX s2 h2=>?_) hs;obtain⟨it,fp,tn,J,H2,e,I2,T,nW,f2,W,⟨m0,w0⟩,turn⟩:=h2;subst e
 -- xD stays true of jT oX objects through jT loop
 have oO:∀{H':Hp},(∀b∈fp,H' b=none)->∀b∈fp,gc X pins H' b:=fun hn b hb=>⟨hn b hb,(f2 b hb).2⟩
 refine codeAny_forLoop_any (fun n s'=>∃i bR H',Inv X pins bR H' s'/\tn i s'.heap/\(∀b∈fp,H' b=none)/\W i n bR H') ?_ m0 ⟨0,σ,H2,I2,nW,fun b hb=>(f2 b hb).1,w0⟩;rintro n s3 ⟨i,lZ,H3,I3,BN,CB,w3⟩;rcases turn i n lZ H3 w3 with⟨stop,qn⟩ | ⟨go,N,hN,step⟩
 ·refine wpAny_passesOwn hp (cf (T.done X rfl rfl rfl hc i pins s3 lZ H3 X.xe I3 (oO CB) BN stop) fun r s4 bG=>?_);obtain⟨hr,I4⟩:=bG;subst hr;exact wpAny_execs_nil ⟨lZ,H3,I4,qn⟩
 ·refine wpAny_passesOwn hp (cf (T.item X rfl rfl rfl hc i pins s3 lZ H3 X.xe I3 (oO CB) BN go) fun r s4 bG=>?_);obtain⟨u,hr,h4⟩:=bG;subst hr;refine wpAny_passesOwn hp (cf h4 fun _ s5 bG=>?_);obtain⟨x,H5,I5,r5,y5,xJ,LW⟩:=bG;have L9:=I5.pinned (oO LW) (T.obj _ _ xJ);refine wpAny_passesOwn hp (cf (hg _ s5 lZ H5 x u _ L9 r5 (step x H5 y5)) fun _ s6 bG=>?_);obtain⟨CP,H6,I6,q6⟩:=bG;refine wpAny_passesOwn hp (cf (hb _ s6 CP H6 _ I6 q6) fun f s7 q7=>?_);have again:∀{jl:St} {H7:Hp},Inv X (pins++qP fp s5.heap) jl H7 s7->N jl H7->∃m,m<n/\∃i bR H',Inv X pins bR H' s7/\tn i s7.heap/\(∀b∈fp,H' b=none)/\W i m bR H':=fun{jl H7} I7 n7=>by
   obtain⟨m',hm,w7⟩:=hN jl H7 n7;refine⟨m',hm,i+1,jl,H7,I7.eA,T.keep _ _ _ xJ fun b hb o e=>(I7.pin (b,o) (aI _ (aI _ (rC hb e)))).1,fun b hb=>?_,w7⟩;obtain⟨o,e,d⟩:=T.obj _ _ xJ b hb;exact(I7.pin (b,o) (aI _ (aI _ (rC hb e)))).2.1
  cases f with
  | next=>obtain⟨jl,H7,I7,n7⟩:=q7;exact again I7 n7
  | cont=>obtain⟨jl,H7,I7,n7⟩:=q7;exact again I7 n7
  | brk=>obtain⟨jl,H7,I7,q7⟩:=q7;exact⟨jl,H7,I7.eA,q7⟩
  | ret v=>obtain⟨x7,jl,H7,I7,r7,q7⟩:=q7;exact⟨x7,jl,H7,I7.eA,r7,q7⟩
end
end L2
namespace L2
open PySem PySem.Spec PyProof.Rows
noncomputable abbrev R2:=V->V->Hp->VK->Prop
def fH(X:Cx)(f:Value->Value->Sem Value)(r:R2):Prop:=
 ∀(pins:List (Addr×Obj)) (s:Shared) (σ:St) (H:Hp) (x y:V) (v u:Value) (Q:VK),Inv X pins σ H s->RelV x v->RelV y u->r x y H Q->
  wpAny (model X.prog X.w) X.A (f v u) (EP X pins σ Q) X.xe s
def y0(X:Cx)(f:Value->Sem Value)(r:V->Hp->VK->Prop):Prop:=
 ∀(pins:List (Addr×Obj)) (s:Shared) (σ:St) (H:Hp) (x:V) (v:Value) (Q:VK),Inv X pins σ H s->RelV x v->r x H Q->
  wpAny (model X.prog X.w) X.A (f v) (EP X pins σ Q) X.xe s
def cb(X:Cx)(f:Value)(r:List V->Hp->VK->Prop):Prop:=
 ∀(pins:List (Addr×Obj)) (s:Shared) (σ:St) (H:Hp) (xs:List V) (us:List Value) (Q:VK),Inv X pins σ H s->Vals xs us->r xs H Q->
  wpAny (model X.prog X.w) X.A (call f us) (EP X pins σ Q) X.xe s
def rX(r:R2)(ta tb:TE):TE:=fun σ H Q=>ta σ H fun x H1=>tb σ H1 fun y H2=>r x y H2 Q
def Kh(r:V->Hp->VK->Prop)(ta:TE):TE:=fun σ H Q=>ta σ H fun x H1=>r x H1 Q
def rI(C:Int->Int->Prop)(g:Int->Int->V):R2:=fun x y H Q=>∃i j,x=.int i/\y=.int j/\C i j/\Q (g i j) H
def oQ(g:Int->Int->V):R2:=fun x y H Q=>∃i j,x=.int i/\y=.int j/\Q (g i j) H
def rU(g:Int->V):V->Hp->VK->Prop:=fun x H Q=>∃i,x=.int i/\Q (g i) H
section
variable {X:Cx} {a b c:Expr} {ta tb tc:TE} {pos:Pos}
theorem vw(ha:PE X a ta)(hb:PE X b tb){pins:List (Addr×Obj)}{s:Shared}{σ:St}{H:Hp}{R:V->V->Hp->Prop}(I:Inv X pins σ H s)
  (h:ta σ H fun x H1=>tb σ H1 fun y H2=>R x y H2) {Q:Value->Shared->Prop} {f:Value->Value->Sem Value}
  (hf:∀v u s2 x y H2,Inv X pins σ H2 s2->RelV x v->RelV y u->R x y H2->wpAny (model X.prog X.w) X.A (f v u) Q X.xe s2) :
  wpAny (model X.prog X.w) X.A (eval a X.env) (fun v bI=>wpAny (model X.prog X.w) X.A (eval b X.env) (fun u gS=>wpAny (model X.prog X.w) X.A (f v u) Q X.xe gS) X.xe bI) X.xe s:=by
 refine cf (ha pins s σ H _ I h) fun v s1 bG=>?_
 obtain⟨x,H1,I1,r1,q1⟩:=bG;refine cf (hb pins s1 σ H1 _ I1 q1) fun u s2 bG=>?_
 obtain⟨y,H2,I2,r2,q2⟩:=bG;exact hf v u s2 x y H2 I2 r1 r2 q2
theorem Eg{op:Operator}{r:R2}(ho:fH X (binaryOp op) r)(ha:PE X a ta)(hb:PE X b tb):PE X (.BinOp a op b pos) (rX r ta tb):=by
 intro pins s σ H Q I h;exact wpAny_BinOp (vw ha hb I h fun v u s2 x y H2 I2 rx ry q=>ho pins s2 σ H2 x y v u Q I2 rx ry q)
theorem Ef{op:UnaryOp}{r:V->Hp->VK->Prop}(ho:y0 X (unaryOp op) r)(ha:PE X a ta):PE X (.UnaryOp op a pos) (Kh r ta):=by
 intro pins s σ H Q I h;exact UnaryOp_ (cf (ha pins s σ H _ I h) fun v s1 bG=>by obtain⟨x,H1,I1,r1,q1⟩:=bG;exact ho pins s1 σ H1 x v Q I1 r1 q1)
theorem uP{f:Value->Value->Sem Value}{C:Int->Int->Prop}{g:Int->Int->Int}
  (rule:∀(i j:Int) (t u:Tok) (s:Shared) (Q:Value->Shared->Prop) (E:Value->Shared->Prop),C i j->Q (.int (g i j) s.toks) { s with toks:=s.toks+1 }->wpAny (model X.prog X.w) X.A (f (.int i t) (.int j u)) Q E s) :
  fH X f (rI C fun i j=>.int (g i j)):=by
 intro pins s σ H x y v u Q I rx ry h;obtain⟨i,j,rfl,rfl,hc,q⟩:=h;obtain⟨t,rfl⟩:=rx;obtain⟨t',rfl⟩:=ry;exact rule i j t t' s _ _ hc ⟨.int (g i j),H,I.tok _,⟨_,rfl⟩,q⟩
theorem zi{f:Value->Value->Sem Value}{g:Int->Int->Int}
  (rule:∀(i j:Int) (t u:Tok) (s:Shared) (Q:Value->Shared->Prop) (E:Value->Shared->Prop),Q (.int (g i j) s.toks) { s with toks:=s.toks+1 }->wpAny (model X.prog X.w) X.A (f (.int i t) (.int j u)) Q E s) :
  fH X f (oQ fun i j=>.int (g i j)):=by
 intro pins s σ H x y v u Q I rx ry h;obtain⟨i,j,rfl,rfl,q⟩:=h;obtain⟨t,rfl⟩:=rx;obtain⟨t',rfl⟩:=ry;exact rule i j t t' s _ _ ⟨.int (g i j),H,I.tok _,⟨_,rfl⟩,q⟩
theorem zh{f:Value->Value->Sem Value}{g:Int->Int->Bool}
  (rule:∀(i j:Int) (t u:Tok) (s:Shared) (Q:Value->Shared->Prop) (E:Value->Shared->Prop),Q (.bool (g i j)) s->wpAny (model X.prog X.w) X.A (f (.int i t) (.int j u)) Q E s) :
  fH X f (oQ fun i j=>.bl (g i j)):=by
 intro pins s σ H x y v u Q I rx ry h;obtain⟨i,j,rfl,rfl,q⟩:=h;obtain⟨t,rfl⟩:=rx;obtain⟨t',rfl⟩:=ry;exact rule i j t t' s _ _ ⟨.bl (g i j),H,I,rfl,q⟩
def gi(i j:Int):Prop:=0<j/\j<1073741824
def l3(i j:Int):Prop:=0<=j/\j<=1000000/\i.natAbs<2 ^ 64
def fN(i j:Int):Prop:=(-(2 ^ 64)<i/\i<2 ^ 64)\/(-(2 ^ 64)<j/\j<2 ^ 64)
theorem fN.ok{i j:Int}(h:fN i j):IntMulOk i j:=by
 rcases h with⟨h1,h2⟩ | ⟨h1,h2⟩
 ·exact .of_left (intBits_le_64 h1 h2)
 ·exact .of_right (intBits_le_64 h1 h2)
theorem oR:fH X (binaryOp .Add) (oQ fun i j=>.int (i+j)):=zi fun _ _ _ _ _ _ _ q=>add_int q
theorem EG:fH X (binaryOp .Sub) (oQ fun i j=>.int (i-j)):=zi fun _ _ _ _ _ _ _ q=>sub_int q
theorem EF:fH X (binaryOp .Mult) (rI fN fun i j=>.int (i*j)):=uP fun _ _ _ _ _ _ _ hc q=>mul_int q hc.ok
theorem FH:fH X (binaryOp .FloorDiv) (rI gi fun i j=>.int (i/j)):=uP fun i j _ _ _ _ _ hc q=>by
 have h1:(0:Int)<j:=hc.1;have h2:j<1073741824:=hc.2;exact floordiv_int (by omega) (by rw[Int.fdiv_eq_ediv_of_nonneg i (by omega)];exact q) (.inl (PyProof.noPylong_small (by omega)))
theorem EE:fH X (binaryOp .Mod) (rI (fun _ j=>0<j) fun i j=>.int (i%j)):=uP fun i j _ _ _ _ _ hc q=>by
 have h1:(0:Int)<j:=hc;exact mod_int' (by omega) (by rw[Int.fmod_eq_emod_of_nonneg i (by omega)];exact q)
theorem ED:fH X (binaryOp .Pow) (rI l3 fun i j=>.int (i ^ j.toNat)):=uP fun _ _ _ _ _ _ _ hc q=>pow_int_small hc.1 hc.2.1 hc.2.2 q
theorem Kb{f:Value->Sem Value}{g:Int->Int}
  (rule:∀(i:Int) (t:Tok) (s:Shared) (Q:Value->Shared->Prop) (E:Value->Shared->Prop),Q (.int (g i) s.toks) { s with toks:=s.toks+1 }->wpAny (model X.prog X.w) X.A (f (.int i t)) Q E s) :
  y0 X f (rU fun i=>.int (g i)):=by
 intro pins s σ H x v Q I rx h;obtain⟨i,rfl,q⟩:=h;obtain⟨t,rfl⟩:=rx;exact rule i t s _ _ ⟨.int (g i),H,I.tok _,⟨_,rfl⟩,q⟩
theorem EC:y0 X (unaryOp .USub) (rU fun i=>.int (-i)):=Kb fun _ _ _ _ _ q=>neg_int q
end
section
variable {X:Cx} {a b c:Expr} {ta tb tc:TE} {pos:Pos}
theorem vN{pins:List (Addr×Obj)}{σ:St}{H:Hp}{s:Shared}{Q:VK}{k k':Bool}(I:Inv X pins σ H s)(q:Q (.bl k) H)(e:k=k'):EP X pins σ Q (.bool k') s:=by
 subst e;exact⟨.bl k,H,I,rfl,q⟩
theorem Ee:fH X (compareOp .Lt) (oQ fun i j=>.bl (decide (i<j))):=zh fun _ _ _ _ _ _ _ q=>lt_int q
theorem Ed:fH X (compareOp .Gt) (oQ fun i j=>.bl (decide (j<i))):=zh fun _ _ _ _ _ _ _ q=>gt_int q
theorem ky:fH X (compareOp .In) (fun x y H Q=>∃i j,x=.str i/\y=.str j/\Q (.bl (!(Builtin.Str.occurrences j i 0 j.length 1).isEmpty)) H):=by
 intro pins s σ H x y v u Q I rx ry h;obtain⟨i,j,rfl,rfl,q⟩:=h;obtain⟨t,rfl⟩:=rx;obtain⟨t',rfl⟩:=ry;exact in_str (vN I q rfl)
theorem EB:fH X (compareOp .Is) (fun x y H Q=>y=.non/\Q (.bl (decide (x=.non))) H):=by
 intro pins s σ H x y v u Q I rx ry h;obtain⟨rfl,q⟩:=h;cases ry;refine is_none_gen (vN I q ?_);cases x<;>first
  | (cases rx;rfl)
  | (obtain⟨t,rfl⟩:=rx;rfl)
theorem FG:fH X (compareOp .IsNot) (fun x y H Q=>y=.non/\Q (.bl (!decide (x=.non))) H):=by
 intro pins s σ H x y v u Q I rx ry h;obtain⟨rfl,q⟩:=h;cases ry;refine isnot_none_gen (vN I q ?_);cases x<;>first
  | (cases rx;rfl)
  | (obtain⟨t,rfl⟩:=rx;rfl)
theorem fH.or{f:Value->Value->Sem Value}{r r':R2}(h:fH X f r)(h':fH X f r'):fH X f (fun x y H Q=>r x y H Q\/r' x y H Q):=by
 intro pins s σ H x y v u Q I rx ry q;rcases q with q | q
 ·exact h pins s σ H x y v u Q I rx ry q
 ·exact h' pins s σ H x y v u Q I rx ry q
theorem zW(b:Expr){op:CmpOp}(h:op≠.In:=by decide)(h2:op≠.NotIn:=by decide):behindInMarks op b=false:=by
 have e1:(op==CmpOp.In)=false:=by cases op<;>first | rfl | exact absurd rfl h
 have e2:(op==CmpOp.NotIn)=false:=by cases op<;>first | rfl | exact absurd rfl h2
 cases b<;>simp[behindInMarks,e1,e2]
theorem FF{op:CmpOp}{r:R2}(ho:fH X (compareOp op) r)(ha:PE X a ta)(hb:PE X b tb)(hm:behindInMarks op b=false):PE X (.Compare a [op] [b] pos) (rX r ta tb):=by
 intro pins s σ H Q I h;exact wpAny_Compare1 (vw ha hb I h fun v u s2 x y H2 I2 rx ry q=>ho pins s2 σ H2 x y v u Q I2 rx ry q) hm
def Ec(t:TE):TT:=fun σ H Q=>t σ H fun x H'=>∃k,x=.bl k/\Q k H'
theorem FE{op:CmpOp}{r:R2}(ho:fH X (compareOp op) r)(ha:PE X a ta)(hb:PE X b tb)(hm:behindInMarks op b=false):PT X (.Compare a [op] [b] pos) (Ec (rX r ta tb)):=by
 intro pins s σ H Q I h;refine wpAny_isTrue_Compare1 (cf (ha pins s σ H _ I h) fun v s1 bG=>?_) hm;obtain⟨x,H1,I1,r1,q1⟩:=bG;refine cf (hb pins s1 σ H1 _ I1 q1) fun u s2 bG=>?_
 obtain⟨y,H2,I2,r2,q2⟩:=bG;refine cf (ho pins s2 σ H2 x y v u _ I2 r1 r2 q2) fun c s3 bG=>?_
 obtain⟨z,H3,I3,r3,k,e,q3⟩:=bG;subst e;cases r3;exact wpAny_truthy_bool ⟨H3,I3,q3⟩
theorem qO:(sizeLine:Nat)<2 ^ 63:=by rw[sizeLine_eq];decide
theorem jB:fH X (binaryOp .Add) (fun x y H Q=>∃i j,x=.str i/\y=.str j/\i.length+j.length<=sizeLine/\Q (.str (i++j)) H):=by
 intro pins s σ H x y v u Q I rx ry h;obtain⟨i,j,rfl,rfl,hz,q⟩:=h;obtain⟨t,rfl⟩:=rx;obtain⟨t',rfl⟩:=ry;exact add_str (fun t' tk=>⟨.str (i++j),H,I.tok _,⟨_,rfl⟩,q⟩) hz
theorem ie{x:V}{us:List Value}(r:Vals [x] us):∃u,us=[u]/\RelV x u:=by
 cases r with
 | cons r1 r2=>cases r2;exact⟨_,rfl,r1⟩
theorem tX{x y:V}{us:List Value}(r:Vals [x,y] us):∃u w',us=[u,w']/\RelV x u/\RelV y w':=by
 cases r with
 | cons r1 r2=>
  cases r2 with
  | cons r3 r4=>cases r4;exact⟨_,_,rfl,r1,r3⟩
theorem Hs(hc:X.calm=true):cb X (.builtin "max") (fun xs H Q=>∃i j,xs=[.int i,.int j]/\Q (.int (if j>i then j else i)) H):=by
 intro pins s σ H xs us Q I r h;obtain⟨i,j,rfl,q⟩:=h;obtain⟨u,w',rfl,⟨t,rfl⟩,⟨t',rfl⟩⟩:=tX r;refine max_two_ints (I.ok.hd hc) fun h' tk k=>⟨_,H,I.kept k,?_,q⟩
 by_cases hj:j>i
 ·rw[if_pos hj,if_pos hj];exact⟨_,rfl⟩
 ·rw[if_neg hj,if_neg hj];exact⟨_,rfl⟩
theorem Hr(hc:X.calm=true):cb X (.builtin "min") (fun xs H Q=>∃i j,xs=[.int i,.int j]/\Q (.int (if j<i then j else i)) H):=by
 intro pins s σ H xs us Q I r h;obtain⟨i,j,rfl,q⟩:=h;obtain⟨u,w',rfl,⟨t,rfl⟩,⟨t',rfl⟩⟩:=tX r;refine min_two_ints (I.ok.hd hc) fun h' tk k=>⟨_,H,I.kept k,?_,q⟩
 by_cases hj:j<i
 ·rw[if_pos hj,if_pos hj];exact⟨_,rfl⟩
 ·rw[if_neg hj,if_neg hj];exact⟨_,rfl⟩
theorem Hq:cb X (.type "int") (fun xs H Q=>(∃i,xs=[.int i]/\Q (.int i) H)\/∃k,xs=[.bl k]/\Q (.int (if k then 1 else 0)) H):=by
 intro pins s σ H xs us Q I r h;rcases h with⟨i,rfl,q⟩ | ⟨k,rfl,q⟩
 ·obtain⟨u,rfl,t,rfl⟩:=ie r;exact call_int_int ⟨.int i,H,I,⟨_,rfl⟩,q⟩
 ·obtain⟨u,rfl,r1⟩:=ie r;cases r1;exact call_int_bool ⟨.int (if k then 1 else 0),H,I.tok _,⟨_,rfl⟩,q⟩
end
end L2
namespace L2
open PySem PySem.Spec PyProof.Rows
structure kE (h:Heap) (x dx C:Addr) (mA:Str->Option Value):Prop where
 obj:h.get? x=some (PySem.W.instObj C dx)
 ns:h.Ns1 dx mA
 ne:dx≠x
theorem Hn{h:Heap}{dx:Addr}{mA:Str->Option Value}(n:h.Ns1 dx mA):∃od,h.get? dx=some od/\∀name,PySem.W.lookIn name od=some (mA name):=by
 obtain⟨o,es,ep,ho,hd,hk,_,hm⟩:=n;refine⟨o,ho,fun name=>?_⟩;have e:=hm name;unfold nsFind findBy at e;rw[<-Array.find?_toList] at e;unfold PySem.W.lookIn;rw[hd];dsimp only;split
 ·rename_i y q;rw[q] at e;exact congrArg some e
 ·rename_i q;rw[q] at e;have a:es.toList.any (·.refKey)=false:=by
   rw[List.any_eq_false];intro y hy;obtain⟨z,t,eS⟩:=hk y (Array.mem_toList_iff.mp hy);simp[DictEntry.refKey,eS]
  have a':¬es.toList.any (·.refKey)=true:=by rw[a];exact aG
  rw[if_neg a'];exact congrArg some e
theorem kE.look{h:Heap}{x dx C:Addr}{mA:Str->Option Value}(I:kE h x dx C mA):∃od,PySem.W.InstAt h x (PySem.W.instObj C dx) C (some od)/\∀name,PySem.W.lookIn name od=some (mA name):=
 let⟨od,ho,hl⟩:=Hn I.ns
 ⟨od,⟨I.obj,rfl,rfl,ho⟩,hl⟩
section
variable {prog:Program} {w:World} {A:Around} {E:Value->Shared->Prop} {s:Shared} {K:PySem.W.Frag} {x dx C f:Addr} {mA:Str->Option Value} {name:Str} {v:Value}
theorem FD{expr:Bool}{Q:Value->Shared->Prop}(X:K.In s.heap)(I:kE s.heap x dx C mA)(hg:PySem.W.plainGet K C name=true)(hh:PySem.W.hasDictIn K C=true)
  (ha:PySem.W.findIn K (.ref C) name=some none) (hv:mA name=some v) (uS:PySem.W.handedIn v=true) (h:Q v { s with toks:=s.toks+1 }) :
  wpAny (model prog w) A (getAttr (.ref x) name expr) Q E s:=by
 obtain⟨od,J,hl⟩:=I.look;exact PySem.W.get_value X J (PySem.W.plainGet_of hg).1 (PySem.W.findObj_own hh ha rfl (by rw[hl,hv])) uS h
theorem FC{ns:List Str}{Q:Unit->Shared->Prop}(X:K.In s.heap)(I:kE s.heap x dx C mA)
  (hs:PySem.W.findIn K (.ref C) "__setattr__"=some (some (.builtin "object.__setattr__"))) (hp:PySem.W.plainOver K C=true) (ht:PySem.W.takerIn K C name=some none) (hh:PySem.W.hasDictIn K C=true)
  (hw:PySem.Within mA ns) (d0:ns.length<=sizeLine)
  (h:∀h',kE h' x dx C (fun y=>if y=name then some v else mA y)->Heap.SameBut dx s.heap h'->Q () { s with heap:=h',toks:=s.toks+2 }) :
  wpAny (model prog w) A (setAttr (.ref x) name v) Q E s:=by
 obtain⟨od,J,hl⟩:=I.look;refine PySem.W.set_plain X J hs (PySem.W.osa_open (s:={ s with toks:=s.toks+1 }) (r:=none) X J hp ht fun b=>?_);obtain⟨cd,hc,o8⟩:=PySem.W.any_some hh;have hx:s.heap.get? x=some ⟨.ref C,some dx,.plain,#[]⟩:=I.obj;refine aa (ab (aa (aa (wpAny_loadPart hx (aa (PySem.W.Looks.here (s:={ s with toks:=s.toks+1 }) (PySem.W.looks_clsIn X hc) ?_))))));rw[o8];refine ab (a:=some dx) (aa (ab (aa ?_)));refine wpAny_nsSet1 (s:={ s with toks:=s.toks+1 }) I.ns fun h' uW kA=>?_
 obtain⟨oD,MD,ME,Lg,Lx,Lz⟩:=uW.count (PySem.Within.cons name v hw);refine aa (wpAny_lookBehind Lg (by rw[Lx];exact pastItsLine_dict (aJ Lz (by rw[aw];omega))) ?_);exact ab (h _ ⟨(kA.2 _ (Ne.symm I.ne)).trans I.obj,uW,I.ne⟩ kA)
theorem Hh{R:Result->Shared->Prop}{vs:List Value}{kw:List (Str×Value)}(X:K.In s.heap)(hm:PySem.W.makesIn K C=true)
  (hi:PySem.W.findIn K (.ref C) "__init__"=some (some (.ref f))) (hf:PySem.W.typeIn K (.ref f)=some (.type "function"))
  (h:codeAny (model prog w) (A.under (.builtin "type.__call__" ⟨.ref C::vs,kw⟩)) (.call (.ref f) ⟨.ref (s.heap.objs.size+1)::vs,kw⟩) (PySem.W.InitBack (s.heap.objs.size+1) R)
   { s with heap:=(s.heap.push PySem.W.emptyDict).push (PySem.W.instObj C s.heap.objs.size) }) :
  codeAny (model prog w) A (.call (.ref C) ⟨vs,kw⟩) R s:=by
 obtain⟨hh,g,d,t,os⟩:=s;exact PySem.W.make_core (PySem.W.makes_of X hm) (PySem.W.looks_findIn X hi) (fun self=>PySem.W.bind_fn X self hf) (.inl rfl) h
end
noncomputable def g8(f:Str)(v:V):List (Str×V)->List (Str×V)
 | []=>[(f,v)]
 | (g,x)::r=>if g=f then(g,v)::r else(g,x)::g8 f v r
theorem BA(f g:Str)(v:V):∀fs:List (Str×V),(g8 f v fs).lookup g=if g=f then some v else fs.lookup g
 | []=>by
  show List.lookup g [(f,v)]=_;by_cases h:g=f
  ·have hb:(g==f)=true:=beq_iff_eq.mpr h;simp only[List.lookup,hb,if_pos h]
  ·have hb:(g==f)=false:=beq_eq_false_iff_ne.mpr h;simp only[List.lookup,hb,if_neg h]
 | (k,x)::r=>by
  have ih:=BA f g v r;rw[show g8 f v ((k,x)::r)=(if k=f then(k,v)::r else(k,x)::g8 f v r) from rfl];by_cases hk:k=f
  ·rw[if_pos hk];by_cases h:g=k
   ·have hb:(g==k)=true:=beq_iff_eq.mpr h;simp only[List.lookup,hb,if_pos (h.trans hk)]
   ·have hb:(g==k)=false:=beq_eq_false_iff_ne.mpr h;simp only[List.lookup,hb,if_neg (fun e:g=f=>h (e.trans hk.symm))]
  ·rw[if_neg hk];by_cases h:g=k
   ·have hb:(g==k)=true:=beq_iff_eq.mpr h;simp only[List.lookup,hb,if_neg (fun e:g=f=>hk (h.symm.trans e))]
   ·have hb:(g==k)=false:=beq_eq_false_iff_ne.mpr h;simp only[List.lookup,hb];exact ih
theorem wO(f:Str)(v:V):∀fs:List (Str×V),f∈(g8 f v fs).map (·.1)/\∀g,g∈fs.map (·.1)->g∈(g8 f v fs).map (·.1)
 | []=>⟨by simp[g8],fun g h=>by simp at h⟩
 | (k,x)::r=>by
  obtain⟨i1,i2⟩:=wO f v r;rw[show g8 f v ((k,x)::r)=(if k=f then(k,v)::r else(k,x)::g8 f v r) from rfl];by_cases hk:k=f
  ·rw[if_pos hk];subst hk;exact⟨by simp,fun g h=>by simpa using h⟩
  ·rw[if_neg hk];refine⟨?_,fun g h=>?_⟩
   ·rw[av];exact aM _ i1
   ·rw[av] at h ⊢;rcases ai.mp h with e | e
    ·exact ai.mpr (.inl e)
    ·exact aM _ (i2 g e)
theorem Bz(f:Str)(v:V):∀fs:List (Str×V),(g8 f v fs).length<=fs.length+1
 | []=>by simp[g8]
 | (k,x)::r=>by
  have ih:=Bz f v r;rw[show g8 f v ((k,x)::r)=(if k=f then(k,v)::r else(k,x)::g8 f v r) from rfl];by_cases hk:k=f
  ·rw[if_pos hk,aw,aw];omega
  ·rw[if_neg hk,aw,aw];omega
theorem jI.some_of{v:V}{o:Option Value}(r:jI (some v) o):∃u,o=some u/\RelV v u:=by
 cases o with
 | none=>exact(show False from r).elim
 | some u=>exact⟨u,rfl,r⟩
theorem HS{v:V}{u:Value}(r:RelV v u):PySem.W.handedIn u=true:=by
 cases v with
 | non=>cases (show u=Value.none from r);rfl
 | bl b=>cases (show u=Value.bool b from r);rfl
 | int i=>obtain⟨t,e⟩:=(show ∃t,u=Value.int i t from r);cases e;rfl
 | str x=>obtain⟨t,e⟩:=(show ∃t,u=Value.str x t from r);cases e;rfl
 | vd b=>obtain⟨t,e⟩:=(show ∃t,u=Value.bytes b t from r);cases e;rfl
 | va b=>obtain⟨t,e⟩:=(show ∃t,u=Value.float b t from r);cases e;rfl
 | ref a=>cases (show u=Value.ref a from r);rfl
 | ty n=>cases (show u=Value.type n from r);rfl
section
variable {P:Program} {w:World} {H H':Hp} {h h':Heap} {a C dx:Addr} {fs u9:List (Str×V)}
theorem Av(bX:gw P w H h)(e:H a=some (.ins C dx fs)):∃mA,kE h a dx C mA/\(∀f,jI (fs.lookup f) (mA f))/\PySem.Within mA (fs.map (·.1))/\fs.length<=1000/\H dx=some (.own a):=by
 obtain⟨d,z,ne,ob,mA,n,r,q⟩:=(show cJ P w H h a (.ins C dx fs) from bX a _ e)
 exact⟨mA,⟨ob,n,ne⟩,r,q,z,d⟩
end
structure ot (K:PySem.W.Frag) (C:Addr):Prop where
 pg:PySem.W.plainGet K C Str.empty=true
 hd:PySem.W.hasDictIn K C=true
 po:PySem.W.plainOver K C=true
 sa:PySem.W.findIn K (.ref C) "__setattr__"=some (some (.builtin "object.__setattr__"))
theorem ot.get{K:PySem.W.Frag}{C:Addr}(c:ot K C)(f:Str):PySem.W.plainGet K C f=true:=c.pg
def bT(K:PySem.W.Frag)(C:Addr)(f:Str):Prop:=PySem.W.findIn K (.ref C) f=some none
theorem bT.rV{K:PySem.W.Frag}{C:Addr}{f:Str}(n:bT K C f):PySem.W.takerIn K C f=some none:=by
 unfold PySem.W.takerIn;rw[show PySem.W.findIn K (.ref C) f=some none from n];rfl
section
variable {X:Cx} {pins:List (Addr×Obj)} {σ:St} {H:Hp} {s:Shared} {a C dx:Addr} {fs:List (Str×V)} {f:Str} {v:V} {A:Around} {E:Value->Shared->Prop}
theorem Ih{b:Bool}{Q:Value->Shared->Prop}(I:Inv X pins σ H s)(e:H a=some (.ins C dx fs))(c:ot X.K C)(n:bT X.K C f)(l:fs.lookup f=some v)
  (h:∀u s',Inv X pins σ H s'->RelV v u->Q u s'):wpAny (model X.prog X.w) A (getAttr (.ref a) f b) Q E s:=by
 obtain⟨mA,O,r,_,_,_⟩:=Av I.bX e;obtain⟨u,hu,ru⟩:=jI.some_of (v:=v) (o:=mA f) (by rw[<-l];exact r f);exact FD I.iI O (c.get f) c.hd n hu (HS ru) (h u _ (I.tok _) ru)
theorem Ig{y:V}{u:Value}{Q:Unit->Shared->Prop}(I:Inv X pins σ H s)(e:H a=some (.ins C dx fs))(c:ot X.K C)(n:bT X.K C f)(hl:fs.length<1000)(ry:RelV y u)
  (h:∀s',Inv X pins σ (upd H a (.ins C dx (g8 f y fs))) s'->Q () s'):wpAny (model X.prog X.w) A (setAttr (.ref a) f u) Q E s:=by
 obtain⟨mA,O,r,wi,_,ho⟩:=Av I.bX e;have hz:(fs.map (·.1)).length<=sizeLine:=by rw[af,sizeLine_eq];omega
 refine FC I.iI O c.sa c.po n.rV c.hd wi hz fun h' O' sb=>h _ ?_
 have hd:∃o,h'.get? dx=some o:=let⟨o,_,_,e',_⟩:=O'.ns;⟨o,e'⟩
 refine I.write (x:=a) (e:=dx) (by rw[e];exact True.intro) (.inr ho) (fun b q hb z=>(sb.2 b hb).trans z) hd ?_;refine⟨by rw[cA O.ne];exact ho,?_,O.ne,O'.obj,_,O'.ns,fun g=>?_,fun g hg=>?_⟩
 ·have:=Bz f y fs;omega
 ·show jI ((g8 f y fs).lookup g) (if g=f then some u else mA g);rw[BA];by_cases q:g=f
  ·rw[if_pos q,if_pos q];exact ry
  ·rw[if_neg q,if_neg q];exact r g
 ·by_cases q:g=f
  ·rw[q];exact(wO f y fs).1
  ·refine(wO f y fs).2 g (wi g fun z=>hg ?_);show(if g=f then some u else mA g)=none;rw[if_neg q];exact z
theorem Inv.made(I:Inv X pins σ H s):Inv X pins σ (upd (upd H s.heap.objs.size (.own (s.heap.objs.size+1))) (s.heap.objs.size+1) (.ins C s.heap.objs.size []))
  { s with heap:=(s.heap.push PySem.W.emptyDict).push (PySem.W.instObj C s.heap.objs.size) }:=by
 have e1:(s.heap.push PySem.W.emptyDict).get? s.heap.objs.size=some PySem.W.emptyDict:=ao s.heap rfl;have e2:((s.heap.push PySem.W.emptyDict).push (PySem.W.instObj C s.heap.objs.size)).get? (s.heap.objs.size+1)=some (PySem.W.instObj C s.heap.objs.size):=by
  have:=ao (s.heap.push PySem.W.emptyDict) (o:=PySem.W.instObj C s.heap.objs.size) rfl;rwa [Heap.size_push] at this
 have e3:(s.heap.push PySem.W.emptyDict).Ns s.heap.objs.size (fun _=>none):=⟨PySem.W.emptyDict,#[],_,e1,rfl,(fun e he=>absurd he (by simp)),fun _=>rfl⟩
 have I1:=I.laid (a:=s.heap.objs.size) (o:=.own (s.heap.objs.size+1)) (h':=s.heap.push PySem.W.emptyDict) (t':=s.toks) (fun b u q=>ae _ q) (aq _) ⟨_,e1⟩;refine I1.laid (a:=s.heap.objs.size+1) (o:=.ins C s.heap.objs.size []) (t':=s.toks) (fun b u q=>ae _ q) (Nat.le_of_eq (Heap.size_push _ _)) ?_;have ne:s.heap.objs.size≠s.heap.objs.size+1:=az (Nat.lt_succ_self _);refine⟨by rw[cA ne,fq],Nat.zero_le _,ne,e2,fun _=>none,(Heap.Ns1.of_empty e3).at fun o q=>ae _ q,fun _=>True.intro,fun y hy=>absurd rfl hy⟩
theorem FA{prog:Program}{w:World}{env:Env}{e:Expr}{f:Str}{pos:Pos}{s:Shared}{Q:Value->Shared->Prop}(hb:attributeBase e f env (eval e env)=eval e env)
  (h:wpAny (model prog w) A (eval e env) (fun o bI=>wpAny (model prog w) A (getAttr o f true) Q E bI) E s):wpAny (model prog w) A (eval (.Attribute e f pos) env) Q E s:=
 Attribute_any_ h (by rw[arm_eval_Attribute,hb])
end
def Dg(K:PySem.W.Frag)(ta:TE)(f:Str):TE:=fun σ H Q=>ta σ H fun x H1=>∃a C dx fs v,x=.ref a/\H1 a=some (.ins C dx fs)/\ot K C/\bT K C f/\fs.lookup f=some v/\Q v H1
def Df(K:PySem.W.Frag)(ta tv:TE)(f:Str):TS:=fun D σ H=>tv σ H fun y H1=>ta σ H1 fun x H2=>∃a C dx fs,x=.ref a/\H2 a=some (.ins C dx fs)/\ot K C/\bT K C f/\fs.length<1000/\
 D.nx σ (upd H2 a (.ins C dx (g8 f y fs)))
section
variable {X:Cx} {o e value:Expr} {f:Str} {pos pos' mU:Pos} {ta tv:TE}
theorem EA(he:PE X e ta)(hb:attributeBase e f X.env (eval e X.env)=eval e X.env):PE X (.Attribute e f pos) (Dg X.K ta f):=by
 intro pins s σ H Q I h;refine FA hb (cf (he pins s σ H _ I h) fun u s1 bG=>?_);obtain⟨x,H1,I1,rx,a,C,dx,fs,v,ex,ea,c,n,l,q⟩:=bG;subst ex;obtain rfl:u=Value.ref a:=rx;exact Ih I1 ea c n l fun u' s2 I2 ru=>⟨v,H1,I2,ru,q⟩
theorem Ez(ha:PE X o ta)(hv:PE X value tv)(hs:swapsWith value (some (.Attribute o f pos')) pos.line X.env=pure false):PS X (.Assign [.Attribute o f pos'] value pos) (Df X.K ta tv f):=by
 intro pins s σ H D I h;refine plainObj_wpAny_Assign_Attribute (cf (hv pins s σ H _ I h) fun u s1 bG=>?_) hs;obtain⟨y,H1,I1,ry,q⟩:=bG;refine cf (ha pins s1 σ H1 _ I1 q) fun ov s2 bG=>?_
 obtain⟨x,H2,I2,rx,a,C,dx,fs,ex,ea,c,n,l,q2⟩:=bG;subst ex;obtain rfl:ov=Value.ref a:=rx;exact Ig I2 ea c n l ry fun s3 I3=>⟨σ,_,I3,q2⟩
end
end L2
namespace L2
open PySem PySem.Spec PyProof.Rows
structure cm (k:Nat) (A:Around):Prop where
 hd:A.handled=none
 dp:A.depth+3*k+5<recursionLimit
 un:A.units+16*k+200<cLine
theorem cm.mono{j k:Nat}{A:Around}(r:cm k A)(h:j<=k):cm j A:=⟨r.hd,by have:=r.dp;omega,by have:=r.un;omega⟩
theorem cm.deeper{k:Nat}{A:Around}(r:cm (k+1) A)(env:Env):cm k (A.deeper env):=
 ⟨r.hd,by have:=r.dp;show A.depth+1+3*k+5<_;omega,by have:=r.un;show A.units+3+16*k+200<_;omega⟩
theorem Ie{A:Around}{C:Addr}{us:List Value}{kw:List (Str×Value)}:(A.under (.builtin "type.__call__" ⟨.ref C::us,kw⟩)).depth=A.depth+1:=by
 first | rfl | simp[Around.under,Code.weight,Code.isCreation,Code.isGuard,Code.isCaller,Code.frames,Code.isFrame,guardIds]
theorem Ic{A:Around}{C:Addr}{us:List Value}{kw:List (Str×Value)}:(A.under (.builtin "type.__call__" ⟨.ref C::us,kw⟩)).units=A.units+1:=by
 first | rfl | simp[Around.under,Code.cUnits,Code.frames,Code.isFrame]
theorem cm.make{k:Nat}{A:Around}(r:cm (k+1) A)(C:Addr)(us:List Value)(kw:List (Str×Value)):cm k (A.under (.builtin "type.__call__" ⟨.ref C::us,kw⟩)):=
 ⟨r.hd,by have:=r.dp;rw[Ie];omega,by have:=r.un;rw[Ic];omega⟩
theorem cm.depth{k:Nat}{A:Around}(r:cm k A):A.depth<recursionLimit:=by have:=r.dp;omega
theorem cm.units{k:Nat}{A:Around}(r:cm k A):A.units+64<cLine:=by have:=r.un;omega
noncomputable def De:TA:=fun _ H Q=>Q [] H
noncomputable def Eb(ta:TE)(tr:TA):TA:=fun σ H Q=>ta σ H fun x H1=>tr σ H1 fun xs H2=>Q (x::xs) H2
section
variable {X:Cx} {e:Expr} {es:List Expr} {te:TE} {t:TA} {pos:Pos}
theorem nO:PA X [] De:=fun _ _ _ _ H Q I h=>Calls.spliced_nil ⟨[],H,I,.nil,h⟩
theorem mQ(ha:PE X e te)(hr:PA X es t)(hs:starEach (e::es) X.env=(false,eval e X.env)::starEach es X.env:=by rfl):PA X (e::es) (Eb te t):=by
 intro pos pins s σ H Q I h;rw[hs];show wpAny _ _ (spliced ((false,eval e X.env)::backTo pos (starEach es X.env))) _ _ s;refine Calls.spliced_cons (cf (ha pins s σ H _ I h) fun u s1 bG=>?_);obtain⟨x,H1,I1,r1,q1⟩:=bG;exact cf (hr pos pins s1 σ H1 _ I1 q1) fun us s2 bG=>by obtain⟨xs,H2,I2,r2,q2⟩:=bG;exact⟨x::xs,H2,I2,.cons r1 r2,q2⟩
def Dd(t:TA):TE:=fun σ H Q=>t σ H fun xs H1=>xs.length<=sizeLine/\∀p,H1 p=none->Q (.ref p) (upd H1 p (.tup xs))
def Dc(t:TA):TE:=fun σ H Q=>t σ H fun xs H1=>xs.length<=sizeLine/\∀p,H1 p=none->Q (.ref p) (upd H1 p (.lst xs))
theorem Ey{x1}(h:PA X es t):PE X (.Tuple es x1 pos) (Dd t):=by
 intro pins s σ H Q I hq;refine wpAny_Tuple_spliced (cf (h pos pins s σ H _ I hq) fun us s1 ⟨xs,H1,I1,r,z,q⟩=>⟨by rw[<-r.length];exact z,?_⟩);have hf:H1 s1.heap.objs.size=none:=I1.bX.fresh (aq _);refine⟨.ref s1.heap.objs.size,upd H1 s1.heap.objs.size (.tup xs),I1.laid (t':=s1.toks) (fun b u e=>ae _ e) (aq _) ?_,rfl,q _ hf⟩;exact⟨z,us,r,⟨_,ao _ rfl,rfl,_,rfl⟩⟩
theorem zV(h:PA X es t):PE X (.List es pos) (Dc t):=by
 intro pins s σ H Q I hq;refine wpAny_List_spliced (cf (h pos pins s σ H _ I hq) fun us s1 ⟨xs,H1,I1,r,z,q⟩=>⟨by rw[<-r.length];exact z,?_⟩);have hf:H1 s1.heap.objs.size=none:=I1.bX.fresh (aq _);refine⟨.ref s1.heap.objs.size,upd H1 s1.heap.objs.size (.lst xs),I1.laid (t':=s1.toks) (fun b u e=>ae _ e) (aq _) ?_,rfl,q _ hf⟩;exact⟨z,us,0,r,ao _ rfl⟩
end
noncomputable abbrev Sp:=List V->Hp->VK->XK->Prop
noncomputable abbrev nC:=List Env->Hp->Shared->XK->Value->Shared->Prop
structure jK (P:Program) (w:World) (K:PySem.W.Frag) (mg:Str->Option Value) (base:Heap) (A:Around) (outer:List Env) (s:Shared) (H:Hp):Prop where
 frames:A.frames=some outer
 mod:Mod K mg base
 bs:∀b o,base.get? b=some o->s.heap.get? b=some o/\H b=none
 om:base.objs.size<=s.heap.objs.size
 f7:s.heap.FunFrames base outer
 pe:∀b∈lN outer,H b=none
 bX:gw P w H s.heap
 bare:AllBare s.gens
def CE(outer:List Env)(P:Program)(w:World)(H:Hp)(s:Shared)(Q:VK)(u:Value)(s':Shared):Prop:=
 ∃v H',s'.os=s.os/\AllBare s'.gens/\Un (lN outer) [] H H' s.heap s'.heap/\gw P w H' s'.heap/\RelV v u/\Q v H'
def CR(CX:nC)(outer:List Env)(P:Program)(w:World)(H:Hp)(s:Shared)(Q:VK)(E:XK)(r:Result)(s':Shared):Prop:=
 match r with
 | .ok (.ret u)=>CE outer P w H s Q u s'
 | .ok _=>False
 | .error e=>CX outer H s E e s'
structure eT (P:Program) (w:World) (K:PySem.W.Frag) (mg:Str->Option Value) (base:Heap) (CX:nC) (k:Nat) (f:Addr) (fd:FuncData) (ps:List Str) (sp:Sp):Prop where
 len:∀vs H Q E,sp vs H Q E->vs.length=ps.length
 run:∀(A:Around) (outer:List Env) (s:Shared) (H:Hp) (args:Args) (us:List Value) (vs:List V) (Q:VK) (E:XK),cm k A->jK P w K mg base A outer s H->BindsTo s fd args (ps.zip us)->Vals vs us->sp vs H Q E->
  codeAny (model P w) A (.call (.ref f) args) (CR CX outer P w H s Q E) s
theorem jK.make{P:Program}{w:World}{K:PySem.W.Frag}{mg:Str->Option Value}{base:Heap}{A:Around}{outer:List Env}{s:Shared}{H:Hp}(e:jK P w K mg base A outer s H)(C:Addr)(us:List Value)(kw:List (Str×Value)) :
  jK P w K mg base (A.under (.builtin "type.__call__" ⟨.ref C::us,kw⟩)) outer s H:=⟨by first | exact e.frames | (simpa[Around.under,Code.envs,Code.isFrame,pushEnvs] using e.frames),e.mod,e.bs,e.om,e.f7,e.pe,e.bX,e.bare⟩
section
variable {X:Cx} {pins:List (Addr×Obj)} {σ:St} {H:Hp} {s s':Shared}
theorem Inv.tD(I:Inv X pins σ H s):jK X.prog X.w X.K X.mg X.base X.A X.stack s H:=
 ⟨I.ok.frames,I.ok.mod,I.bs,aJ I.ok.om I.sz,I.stack,I.jU,I.bX,I.bare⟩
theorem Inv.after{Q:VK}{u:Value}(I:Inv X pins σ H s)(h:CE X.stack X.prog X.w H s Q u s'):EP X pins σ Q u s':=by
 obtain⟨v,H',os,bare,un,bX,r,q⟩:=h;obtain⟨hh,g,d,t,sf⟩:=s';obtain rfl:sf=s.os:=os;exact⟨v,H',I.call (h':=hh) (g':=g) (d':=d) (t':=t) (ch:=[]) un bX bare (fun b z=>absurd z (by simp)),r,q⟩
end
def Ea(sp:Sp)(dvs:List V)(E:XK)(t:TA):TE:=fun σ H Q=>t σ H fun vs H1=>sp (vs++dvs) H1 Q E
def D9(C:Addr)(sp:Sp)(dvs:List V)(E:XK)(t:TA):TE:=fun σ H Q=>t σ H fun vs H1=>∀x dx,H1 x=none->H1 dx=none->dx≠x->
 sp (.ref x::(vs++dvs)) (upd (upd H1 dx (.own x)) x (.ins C dx [])) (fun v H2=>v=.non/\Q (.ref x) H2) E
def Binds(K:PySem.W.Frag)(fd:FuncData)(ps:List Str)(ds:List Value):Prop:=
 ∀(s:Shared) (us:List Value),K.In s.heap->(us++ds).length=ps.length->BindsTo s fd ⟨us,[]⟩ (ps.zip (us++ds))
theorem Binds.all{K:PySem.W.Frag}{fd:FuncData}{ps:List Str}(h:∀us:List Value,us.length=ps.length->bindArgs fd ⟨us,[]⟩=pure (ps.zip us)):Binds K fd ps []:=fun s us _ hl=>by
 rw[List.append_nil] at hl ⊢;exact .of_eq (h us hl)
def qN(CX:nC)(X:Cx)(E:XK):Prop:=∀(pins:List (Addr×Obj)) (σ:St) (H:Hp) (s:Shared) (e:Value) (s':Shared),Inv X pins σ H s->CX X.stack H s E e s'->X.xe e s'
section
variable {X:Cx} {CX:nC} {k:Nat} {f C:Addr} {fd:FuncData} {ps:List Str} {sp:Sp} {dvs:List V} {ds:List Value} {E:XK} {x m:Str} {p pos apos:Pos} {e o:Expr} {es:List Expr} {ta:TE} {t:TA}
theorem Fc{pins:List (Addr×Obj)}{σ:St}{H:Hp}{s:Shared}{Q:VK}{us:List Value}{vs:List V}(F:eT X.prog X.w X.K X.mg X.base CX k f fd ps sp)(hr:cm k X.A)(hb:Binds X.K fd ps ds)(hd:Vals dvs ds)(hx:qN CX X E)
  (I:Inv X pins σ H s) (r:Vals vs us) (h:sp (vs++dvs) H Q E):wpAny (model X.prog X.w) X.A (call (.ref f) us) (EP X pins σ Q) X.xe s:=by
 have r2:Vals (vs++dvs) (us++ds):=r.append hd;have hl:(us++ds).length=ps.length:=by rw[<-r2.length];exact F.len _ _ _ _ h
 refine wpAny_call (codeAny_mono (F.run X.A X.stack s H ⟨us,[]⟩ (us++ds) (vs++dvs) Q E hr I.tD (hb s us I.iI hl) r2 h) fun r s' hq=>?_);cases r with
 | error e=>exact hx pins σ H s e s' I hq
 | ok fl=>
  cases fl with
  | ret u=>exact I.after hq
  | next=>exact False.elim hq
  | brk=>exact False.elim hq
  | cont=>exact False.elim hq
theorem Au(F:eT X.prog X.w X.K X.mg X.base CX k f fd ps sp)(hr:cm k X.A)(hg:Gl X x)(hm:X.mg x=some (.ref f))(hk:PySem.W.keepIn X.K (.ref f)=true)(hb:Binds X.K fd ps ds)(hd:Vals dvs ds)(hx:qN CX X E)
  (ha:PA X (e::es) t) (il:(x==("__debug__":Str))=false:=by decide) (he:starEach (e::es) X.env=(false,eval e X.env)::starEach es X.env:=by rfl) (dA:(backTo pos (starEach es X.env)).any (·.1)=false:=by rfl) :
  PE X (.Call (.Name x p) (e::es) [] pos) (Ea sp dvs E t):=by
 intro pins s σ H Q I h;refine wpAny_Call_Name_kw (Aj I hg hm ?_ il);refine PySem.W.callWith_K (h₀:=X.base) I.ok.mod.qd hk (cf (ha pos pins s σ H _ I h) fun us s1 bG=>?_) he dA;obtain⟨vs,H1,I1,r,q⟩:=bG;refine⟨I1.iI,?_⟩;exact Fc F hr hb hd hx I1 r q
structure Mk (K:PySem.W.Frag) (C f:Addr):Prop where
 makes:PySem.W.makesIn K C=true
 init:PySem.W.findIn K (.ref C) "__init__"=some (some (.ref f))
 fn:PySem.W.isFn K (.ref f)=true
 kp:PySem.W.keepIn K (.ref C)=true
theorem Hg{pins:List (Addr×Obj)}{σ:St}{H:Hp}{s:Shared}{Q:VK}{us:List Value}{vs:List V}(M:Mk X.K C f)(F:eT X.prog X.w X.K X.mg X.base CX k f fd ps sp)(hr:cm (k+1) X.A)(hb:Binds X.K fd ps ds)(hd:Vals dvs ds)
  (hx:qN CX X E) (I:Inv X pins σ H s) (r:Vals vs us)
  (h:∀x dx,H x=none->H dx=none->dx≠x->sp (.ref x::(vs++dvs)) (upd (upd H dx (.own x)) x (.ins C dx [])) (fun v H2=>v=.non/\Q (.ref x) H2) E) :
  wpAny (model X.prog X.w) X.A (call (.ref C) us) (EP X pins σ Q) X.xe s:=by
 have hq:=h (s.heap.objs.size+1) s.heap.objs.size (I.bX.fresh (Nat.le_succ _)) (I.bX.fresh (aq _)) (az (Nat.lt_succ_self _));have I2:=Inv.made (C:=C) I;have r2:Vals (V.ref (s.heap.objs.size+1)::(vs++dvs)) (Value.ref (s.heap.objs.size+1)::(us++ds)):=.cons rfl (r.append hd);have hl:(Value.ref (s.heap.objs.size+1)::us++ds).length=ps.length:=by
  have e:=r2.length;rw[F.len _ _ _ _ hq] at e;exact e.symm
 refine wpAny_call (Hh (f:=f) I.iI M.makes M.init (beq_iff_eq.mp M.fn) (codeAny_mono (F.run _ X.stack _ _ ⟨Value.ref (s.heap.objs.size+1)::us,[]⟩ (Value.ref (s.heap.objs.size+1)::(us++ds)) _ _ E (hr.make C us [])
  (I2.tD.make C us []) (hb _ (Value.ref (s.heap.objs.size+1)::us) I2.iI hl) r2 hq) fun r s' m9=>?_))
 cases r with
 | error e=>exact hx pins σ _ _ e s' I2 m9
 | ok fl=>
  cases fl with
  | ret u=>
   obtain⟨v,H',I3,rv,ev,q3⟩:=I2.after m9;subst ev;exact⟨rv,⟨V.ref (s.heap.objs.size+1),H',I3,rfl,q3⟩⟩
  | next=>exact False.elim m9
  | brk=>exact False.elim m9
  | cont=>exact False.elim m9
theorem Fz(M:Mk X.K C f)(F:eT X.prog X.w X.K X.mg X.base CX k f fd ps sp)(hr:cm (k+1) X.A)(hg:Gl X x)(hm:X.mg x=some (.ref C))(hb:Binds X.K fd ps ds)(hd:Vals dvs ds)(hx:qN CX X E)
  (ha:PA X (e::es) t) (il:(x==("__debug__":Str))=false:=by decide) (he:starEach (e::es) X.env=(false,eval e X.env)::starEach es X.env:=by rfl) (dA:(backTo pos (starEach es X.env)).any (·.1)=false:=by rfl) :
  PE X (.Call (.Name x p) (e::es) [] pos) (D9 C sp dvs E t):=by
 intro pins s σ H Q I h;refine wpAny_Call_Name_kw (Aj I hg hm ?_ il);refine PySem.W.callWith_K (h₀:=X.base) I.ok.mod.qd M.kp (cf (ha pos pins s σ H _ I h) fun us s1 bG=>?_) he dA;obtain⟨vs,H1,I1,r,q⟩:=bG;refine⟨I1.iI,?_⟩;exact Hg M F hr hb hd hx I1 r q
end
structure br (N P:List Str) (sc:Scope):Prop where
 kind:sc.kind=.function
 co:sc.isCoroutine=false
 gen:sc.isGenerator=false
 nd:N.Nodup
 pre:N.take P.length=P
 par:∀x∈P,sc.names.lookup x=some .local\/sc.names.lookup x=some .cell
 oT:∀y∈sc.names,y.2≠.free
theorem Ba{kindOf:Str->Option NameKind}{x:Str}:∀{binds:List (Str×Value)} {m:Str->Option Value},(∀v,(x,v)∉binds)->bindL kindOf binds m x=m x
 | [],_,_=>rfl
 | (n,v)::r,m,h=>by
  unfold bindL;rw[Ba fun w hw=>h w (aM _ hw)];split
  ·have:x≠n:=by rintro rfl;exact h v List.mem_cons_self
   simp[this]
  ·rfl
theorem A9{kindOf:Str->Option NameKind}{x:Str}:∀{binds:List (Str×Value)} {m:Str->Option Value},(∀v,(x,v)∉binds)->bindC kindOf binds m x=m x
 | [],_,_=>rfl
 | (n,v)::r,m,h=>by
  unfold bindC;rw[A9 fun w hw=>h w (aM _ hw)];split
  ·rfl
  ·have:x≠n:=by rintro rfl;exact h v List.mem_cons_self
   simp[this]
theorem A8{kindOf:Str->Option NameKind}{x:Str}{v:Value}:∀{P:List Str} {vs:List Value} {i:Nat} {m:Str->Option Value},P.Nodup->P[i]?=some x->vs[i]?=some v->kindOf x=some .local->
  bindL kindOf (P.zip vs) m x=some v
 | [],_,_,_,_,h,_,_=>by simp at h
 | _::_,[],_,_,_,_,h,_=>by simp at h
 | p::P,w::vs,0,m,nd,h1,h2,hk=>by
  simp at h1 h2;subst h1;subst h2;show bindL kindOf ((p,w)::P.zip vs) m p=_;unfold bindL;rw[Ba fun v hv=>(aX.mp nd).1 (List.of_mem_zip hv).1,if_pos hk];simp
 | p::P,w::vs,i+1,m,nd,h1,h2,hk=>by
  show bindL kindOf ((p,w)::P.zip vs) m x=_;unfold bindL;exact A8 (i:=i) (aX.mp nd).2 (by simpa using h1) (by simpa using h2) hk
theorem A7{kindOf:Str->Option NameKind}{x:Str}{v:Value}:∀{P:List Str} {vs:List Value} {i:Nat} {m:Str->Option Value},P.Nodup->P[i]?=some x->vs[i]?=some v->kindOf x≠some .local->
  bindC kindOf (P.zip vs) m x=some v
 | [],_,_,_,_,h,_,_=>by simp at h
 | _::_,[],_,_,_,_,h,_=>by simp at h
 | p::P,w::vs,0,m,nd,h1,h2,hk=>by
  simp at h1 h2;subst h1;subst h2;show bindC kindOf ((p,w)::P.zip vs) m p=_;unfold bindC;rw[A9 fun v hv=>(aX.mp nd).1 (List.of_mem_zip hv).1,if_neg hk];simp
 | p::P,w::vs,i+1,m,nd,h1,h2,hk=>by
  show bindC kindOf ((p,w)::P.zip vs) m x=_;unfold bindC;exact A7 (i:=i) (aX.mp nd).2 (by simpa using h1) (by simpa using h2) hk
noncomputable def ic(N:List Str)(vs:List V):St:=vs.map some++List.replicate (N.length-vs.length) none
noncomputable def kJ(CX:nC)(P:Program)(w:World)(K:PySem.W.Frag)(mg:Str->Option Value)(base:Heap)(N:List Str)(qual:Str)(scope:Scope)(f:Addr)(cd:Value)(A:Around)(outer:List Env)(s:Shared)(H:Hp)(E:XK):Cx where
 prog:=P
 w:=w
 K:=K
 mg:=mg
 base:=base
 A:=A.deeper (envOfC qual scope s.heap.objs.size f cd)
 N:=N
 cT:=s
 lY:=H
 env:=envOfC qual scope s.heap.objs.size f cd
 outer:=outer
 stack:=envOfC qual scope s.heap.objs.size f cd::outer
 ex:=[]
 calm:=true
 fn:=fun _=>true
 pn:=[]
 xe:=fun e s'=>wpAny (model P w) (A.deeper (envOfC qual scope s.heap.objs.size f cd)) (leaving (envOfC qual scope s.heap.objs.size f cd) e) (fun _ xK=>CX outer H s E e xK) (fun e' xK=>CX outer H s E e' xK) s'
theorem AR{sc:Scope}{n:Nat}{x:Str}(h:sc.names.lookup x=some .cell):∃c,(cellsFrom n sc.names []).lookup x=some c:=by
 have q:=PySem.W.cellsFrom_some sc.names n [] (.inl h);exact Option.isSome_iff_exists.mp q
theorem HR{CX:nC}{P:Program}{w:World}{K:PySem.W.Frag}{mg:Str->Option Value}{base:Heap}{N ps:List Str}{qual:Str}{scope:Scope}{f:Addr}{cd:Value}{A:Around}{outer:List Env}{s s1:Shared}{H:Hp}{E:XK}{us:List Value}{vs:List V}
  (S:br N ps scope) (hd:A.handled=none) (e0:jK P w K mg base A outer s H) (hl:vs.length=ps.length) (r:Vals vs us)
  (x:InCallC s s.heap.objs.size (bindL (envOfC qual scope s.heap.objs.size f cd).kindOf (ps.zip us) fun _=>none) (cellsFrom (s.heap.objs.size+1) scope.names []) (bindC (envOfC qual scope s.heap.objs.size f cd).kindOf (ps.zip us) fun _=>none) s1) :
  Inv (kJ CX P w K mg base N qual scope f cd A outer s H E) [] (ic N vs) H s1:=by
 have dA:ps.length<=N.length:=by have:=congrArg List.length S.pre;rw[aL] at this;omega
 obtain⟨h1,tk,rfl,hk⟩:=x.done;have sm:∀b:Addr,b∉(kJ CX P w K mg base N qual scope f cd A outer s H E).ex:=fun b z=>absurd (show b∈([]:List Addr) from z) (by simp)
 refine⟨⟨e0.mod,S.kind,rfl,rfl,aq _,fun y z c h1 h2=>?_,fun y hy=>?_,fun y c _ h=>?_,fun _=>hd,Around.frames_deeper e0.frames,.inr ⟨rfl,rfl⟩,fun b z=>absurd z (sm b),e0.bs,e0.om,fun b _ _=>sm b,fun b z=>absurd z (sm b),e0.f7,e0.pe⟩,
  rfl,e0.bare,Un.kept hk,⟨_,x.toInCall.ns,fun i y v h1 h2 h3=>?_⟩,fun y c h=>⟨_,x.cell y c h⟩,e0.bX.fresh (aq _),fun y c h=>?_,fun p hp=>absurd (show p∈([]:List (Addr×Obj)) from hp) (by simp),e0.bX.kept hk,?_⟩
 ·exact name_of_addr x.apart (PySem.mem_of_lookup h1) (PySem.mem_of_lookup h2)
 ·have hy:scope.names.lookup y=some .cell\/scope.names.lookup y=some .free:=hy;rcases hy with hy | hy
  ·exact AR hy
  ·exact absurd rfl (S.oT _ (PySem.mem_of_lookup hy))
 ·exact Nat.le_of_lt (x.above y c (PySem.mem_of_lookup h))
 ·have hi:i<vs.length:=by
   unfold ic at h2;by_cases hi:i<vs.length
   ·exact hi
   ·rw[List.getElem?_append_right (by simpa using hi)] at h2;rw[List.getElem?_replicate] at h2;split at h2<;>cases h2
  have ha:vs[i]?=some v:=by
   unfold ic at h2;rw[List.getElem?_append_left (by simpa using hi),aK] at h2;cases e:vs[i]? with
   | none=>rw[e] at h2;cases h2
   | some a=>rw[e] at h2;cases h2;rfl
  obtain⟨u,hu,rv⟩:=r.get ha;have hp:ps[i]?=some y:=by
   rw[<-S.pre,List.getElem?_take_of_lt (by omega)];exact h1
  have BW:ps.Nodup:=by rw[<-S.pre];exact S.nd.sublist (List.take_sublist _ _)
  refine⟨u,rv,?_⟩;rcases S.par y (List.mem_of_getElem? hp) with k | k
  ·exact .inl ⟨k,A8 BW hp hu k⟩
  ·obtain⟨c,e⟩:=AR (n:=s.heap.objs.size+1) k;refine .inr ⟨.inl k,c,e,?_⟩;have q:=x.cell y c e;rw[A7 BW hp hu (by show scope.names.lookup y≠_;rw[k];decide)] at q;exact q
 ·exact e0.bX.fresh (Nat.le_of_lt (x.above y c (PySem.mem_of_lookup h)))
 ·unfold ic;show _=N.length;rw[au,af,List.length_replicate];omega
theorem D8{CX:nC}{P:Program}{w:World}{K:PySem.W.Frag}{mg:Str->Option Value}{base:Heap}{k:Nat}{f:Addr}{name qual:Str}{params:Arguments}{body:List Stmt}{scope:Scope}{dV kV doc pm bM ct oc:Value}{an od:Option Addr}
  {js:Array (Option Value)} {N ps:List Str} {sp:Sp} (lk:K.lookup f=some ⟨oc,od,.func (PySem.W.fnOf name qual params body scope dV kV doc pm an bM ct),js⟩) (fL:PySem.W.codeIn K bM qual=true) (S:br N ps scope)
  (len:∀vs H Q E,sp vs H Q E->vs.length=ps.length)
  (lL:∀(A:Around) (outer:List Env) (s:Shared) (H:Hp) (vs:List V) (Q:VK) (E:XK),cm k (A.deeper (envOfC qual scope s.heap.objs.size f bM))->sp vs H Q E->
   ∃t,j9 (kJ CX P w K mg base N qual scope f bM A outer s H E) body t/\t { nx:=fun _ H'=>Q .non H',rt:=Q } (ic N vs) H) :
  eT P w K mg base CX (k+1) f (PySem.W.fnOf name qual params body scope dV kV doc pm an bM ct) ps sp:=by
 refine⟨len,fun A outer s H args us vs Q E hr e0 hb r qf=>?_⟩;have hl:=len _ _ _ _ qf;have KX:K.In s.heap:=e0.mod.qd.keeps fun b o e=>(e0.bs b o e).1
 have lim:s.heap.NoLimit:=e0.mod.nolimit.keeps fun b o e=>(e0.bs b o e).1
 have j4:∀y∈ps.zip us,scope.names.lookup y.1=some .local\/(scope.names.lookup y.1=some .cell/\((cellsFrom (s.heap.objs.size+1) scope.names []).lookup y.1).isSome=true):=fun⟨n,v⟩ hy=>by
  rcases S.par n (List.of_mem_zip hy).1 with q | q
  ·exact .inl q
  ·exact .inr ⟨q,PySem.W.cellsFrom_some _ _ _ (.inl q)⟩
 refine codeAny_call_function hr.depth (KX _ _ lk) rfl S.co S.gen rfl (PySem.W.codeRec_of KX fL) (hb _ _ _ _ ?_);refine wpAny_newFunctionEnv_cells S.kind j4 fun env he s1 x=>?_
 subst he;refine⟨lim.keeps x.toInCall.keep,codeAny_func ?_⟩;obtain⟨t,ht,hq⟩:=lL A outer s H vs Q E (hr.deeper _) qf;have I:Inv (kJ CX P w K mg base N qual scope f bM A outer s H E) [] (ic N vs) H s1:=HR S hr.hd e0 hl r x;refine wpAny_mono (ht [] s1 (ic N vs) H _ I hq) (fun fl s' hs=>?_) fun e s' hs=>hs
 have fin:∀{bR:St} {H':Hp} {v:V} {u:Value},Inv (kJ CX P w K mg base N qual scope f bM A outer s H E) [] bR H' s'->RelV v u->Q v H'->CE outer P w H s Q u s':=
  fun{bR H' v u} J rv q=>⟨v,H',J.os,J.bare,J.base,J.bX,rv,q⟩
 cases fl with
 | ret u=>
  obtain⟨v,bR,H',J,rv,q⟩:=hs;exact fin J rv q
 | next=>
  obtain⟨bR,H',J,q⟩:=hs;exact fin (v:=V.non) (u:=Value.none) J rfl q
 | brk=>
  obtain⟨_,_,_,q⟩:=hs;exact False.elim q
 | cont=>
  obtain⟨_,_,_,q⟩:=hs;exact False.elim q
end L2
namespace L2
open PySem PySem.Spec PyProof.Rows
section
variable {X:Cx} {x:Str} {p pos:Pos} {e:Expr} {es:List Expr} {t:TA} {id T:String} {r:List V->Hp->VK->Prop}
def xG(r:List V->Hp->VK->Prop)(t:TA):TE:=fun σ H Q=>t σ H fun vs H1=>r vs H1 Q
theorem wy(hc:cb X (.builtin id) r)(hg:Gl X x)(hm:X.mg x=none)(hv:bootBuiltins x=some (.builtin id))(ha:PA X (e::es) t)(hn:x≠"__name__":=by decide)(il:(x==("__debug__":Str))=false:=by decide)
  (he:starEach (e::es) X.env=(false,eval e X.env)::starEach es X.env:=by rfl) (dA:(backTo pos (starEach es X.env)).any (·.1)=false:=by rfl):PE X (.Call (.Name x p) (e::es) [] pos) (xG r t):=by
 intro pins s σ H Q I h;refine wpAny_Call_Name_kw (k9 I hg hm hv ?_ hn il);exact PyProof.Rows.callWith_builtin1 (cf (ha pos pins s σ H _ I h) fun us s1 bG=>by obtain⟨vs,H1,I1,r1,q1⟩:=bG;exact hc pins s1 σ H1 vs us Q I1 r1 q1) he dA
theorem wN(hc:cb X (.type T) r)(hg:Gl X x)(hm:X.mg x=none)(hv:bootBuiltins x=some (.type T))(ha:PA X (e::es) t)(hn:x≠"__name__":=by decide)(il:(x==("__debug__":Str))=false:=by decide)
  (he:starEach (e::es) X.env=(false,eval e X.env)::starEach es X.env:=by rfl) (dA:(backTo pos (starEach es X.env)).any (·.1)=false:=by rfl):PE X (.Call (.Name x p) (e::es) [] pos) (xG r t):=by
 intro pins s σ H Q I h;refine wpAny_Call_Name_kw (k9 I hg hm hv ?_ hn il);exact PyProof.Rows.callWith_type1 (cf (ha pos pins s σ H _ I h) fun us s1 bG=>by obtain⟨vs,H1,I1,r1,q1⟩:=bG;exact hc pins s1 σ H1 vs us Q I1 r1 q1) he dA
end
end L2
namespace HT
open PySem PyProof.Rows
section
variable {prog:Program} {w:World} {A:Around} {E:Value->Shared->Prop} {s:Shared}
noncomputable def cg(n d:Nat):Option Int->Nat
 | none=>d
 | some v=>if v<0 then(v+(n:Int)).toNat else min v.toNat n
theorem fJ(n d:Nat)(hd:d<=n)(o:Option Int):cg n d o<=n:=by
 cases o with
 | none=>exact hd
 | some v=>
  show(if v<0 then(v+(n:Int)).toNat else min v.toNat n)<=n;by_cases hv:v<0
  ·rw[if_pos hv];omega
  ·rw[if_neg hv];exact Nat.min_le_right _ _
theorem iq(v:Int)(n d:Nat):(if v<0 then max (v+(n:Int)) 0 else min v (n:Int))=((cg n d (some v):Nat):Int):=by
 show(if v<0 then max (v+(n:Int)) 0 else min v (n:Int))=(((if v<0 then(v+(n:Int)).toNat else min v.toNat n):Nat):Int)
 by_cases hv:v<0
 ·simp only[if_pos hv];omega
 ·simp only[if_neg hv];omega
theorem Ib(lo hi:Option Int)(n:Nat):Builtin.Slice.sliceAdjust lo hi 1 (n:Int)=(((cg n 0 lo:Nat):Int),((cg n n hi:Nat):Int)):=by
 have h1:¬((1:Int)<0):=by omega
 unfold Builtin.Slice.sliceAdjust;simp only[h1,aU];refine Prod.ext ?_ ?_
 ·cases lo with
  | none=>rfl
  | some v=>exact iq v n 0
 ·cases hi with
  | none=>rfl
  | some v=>exact iq v n n
theorem Ia(i j:Nat):Builtin.Slice.slicePlaces (i:Int) (j:Int) 1=j-i:=by
 unfold Builtin.Slice.slicePlaces;have h1:(1:Int)>0:=by omega
 simp only[h1,aY,Int.ediv_one];split<;>omega
theorem Bt{v:Value}{o:Option Int}{Q:Option Int->Shared->Prop}(p:IsPart v o)(h:Q o s):wpAny (model prog w) A (Builtin.Slice.slicePartIndex v) Q E s:=by
 cases p with
 | none=>exact slicePart_none h
 | int i t=>exact slicePart_int h
theorem JO{sl:Addr}{vl vu:Value}{lo hi:Option Int}{n:Nat}{Q:Int×Int×Nat->Shared->Prop}(hs:s.heap.IsSliceOf sl vl vu .none)(pl:IsPart vl lo)(pu:IsPart vu hi)
  (h:Q (((cg n 0 lo:Nat):Int),1,cg n n hi-cg n 0 lo) s):wpAny (model prog w) A (Builtin.Slice.sliceApplied (.ref sl) (pure (n:Int))) Q E s:=by
 obtain⟨os,sO,u5,u4⟩:=id hs;unfold Builtin.Slice.sliceApplied Builtin.Slice.sliceFields;refine aa (aa (wpAny_field sO u4 (x:=vl) rfl (aa (wpAny_field sO u4 (x:=vu) rfl (aa (wpAny_field sO u4 (x:=.none) rfl (ab ?_)))))));refine aa (slicePart_none ?_);show wpAny _ _ (if ((1:Int)==0)=true then _ else _) _ _ s;rw[if_neg (by decide)];refine aa (Bt pl (aa (Bt pu (aa (ab ?_)))));show wpAny _ _ (match Builtin.Slice.sliceAdjust lo hi 1 (n:Int) with | (lo,hi)=>pure (lo,(1:Int),Builtin.Slice.slicePlaces lo hi 1)) _ _ s;rw[Ib lo hi n];show wpAny _ _ (pure (((cg n 0 lo:Nat):Int),(1:Int),Builtin.Slice.slicePlaces ((cg n 0 lo:Nat):Int) ((cg n n hi:Nat):Int) 1)) _ _ s;rw[Ia];exact ab h
theorem Hf(xs:Array Value)(i k:Nat):((List.range k).filterMap fun(m:Nat)=>xs[((i:Int)+(m:Int)*1).toNat]?).toArray=((xs.toList.drop i).take k).toArray:=by
 have e:(fun(m:Nat)=>xs[((i:Int)+(m:Int)*1).toNat]?)=fun m=>xs[i+m]?:=by
  funext m
  have:((i:Int)+(m:Int)*1).toNat=i+m:=by omega
  rw[this]
 rw[e];have:=pick_run xs i k;rw[List.filterMap_map] at this;have e2:((fun x=>xs[x]?)∘fun x=>i+x)=fun m=>xs[i+m]?:=rfl
 rw[e2] at this;rw[this]
theorem fF{t sl:Addr}{items:Array Value}{vl vu:Value}{lo hi:Option Int}{Q:Value->Shared->Prop}(ht:IsTup s.heap t items)(hs:s.heap.IsSliceOf sl vl vu .none)(pl:IsPart vl lo)(pu:IsPart vu hi)
  (hw:¬(cg items.size 0 lo=0/\cg items.size items.size hi=items.size))
  (h:Q (.ref s.heap.objs.size) { s with heap:=s.heap.push { cls:=.type "tuple",data:=.seq ((items.toList.drop (cg items.size 0 lo)).take (cg items.size items.size hi-cg items.size 0 lo)).toArray } })
  (d0:items.size<=sizeLine):wpAny (model prog w) A (getItem (.ref t) (.ref sl)) Q E s:=by
 have jY:sizeOk (.seq ((items.toList.drop (cg items.size 0 lo)).take (cg items.size items.size hi-cg items.size 0 lo)).toArray):=by
  show((items.toList.drop (cg items.size 0 lo)).take (cg items.size items.size hi-cg items.size 0 lo)).toArray.size<=sizeLine;rw[ah,aL,List.length_drop,ak];omega
 have hj:cg items.size items.size hi<=items.size:=fJ _ _ (aq _) hi;obtain⟨os,sO,u5,u4⟩:=id hs;have LD:s.TypeIs (.ref sl) "slice":=⟨os,sO,u5⟩
 unfold getItem;try with_reducible refine aQ ?_
 first | refine aa (ab ?_) | skip
 refine aa (wpAny_sequenceKey ht.typeIs (by decide) ?_);refine aa (wpAny_callSpecial?_slot (name:=Str.ofString "__getitem__") ht.typeIs PyProof.Rows.slot_tuple_getitem
  (wpAny_call_entry PyProof.Rows.slot_tuple_getitem ht.typeIs entry_tuple_getitem ?_ (args_tuple_getitem _ _)))
 show wpAny _ _ (Builtin.Tuple.tupleItemsOf (.ref t) >>= _) _ _ s;refine aa (tupleItemsOf_ ht ?_);refine aa (wpAny_typeOf LD ?_);rw[if_pos (by decide)];refine aa (JO hs pl pu ?_);have ni:¬((((cg items.size 0 lo:Nat):Int)==0&&(1:Int)==1&&(cg items.size items.size hi-cg items.size 0 lo)==items.size)=true):=by
  intro q;rw[Bool.and_eq_true,Bool.and_eq_true] at q;have q1:((cg items.size 0 lo:Nat):Int)=0:=eq_of_beq q.1.1;have q2:cg items.size items.size hi-cg items.size 0 lo=items.size:=eq_of_beq q.2;exact hw ⟨by omega,by omega⟩
 show wpAny _ _ (if (((cg items.size 0 lo:Nat):Int)==0&&(1:Int)==1&&(cg items.size items.size hi-cg items.size 0 lo)==items.size)=true then _ else _) _ _ s;rw[if_neg ni,Hf];first
  | exact aa (m:=Builtin.Tuple.tupleExact _) (wpAny_newObj_type (ab ⟨_,rfl,ab h⟩) jY)
  | exact aa (m:=Builtin.Tuple.tupleExact _) (wpAny_newObj_type (aa (ab (ab ⟨_,rfl,ab h⟩))) jY)
  | exact aa (aa (m:=Builtin.Tuple.tupleExact _) (wpAny_newObj_type (ab (ab ⟨_,rfl,ab h⟩)) jY))
  | exact aa (aa (m:=Builtin.Tuple.tupleExact _) (wpAny_newObj_type (ab ⟨_,rfl,ab h⟩) jY))
end
end HT
namespace L2
open PySem PySem.Spec PyProof.Rows
noncomputable abbrev TO:=St->Hp->(Option Int->Hp->Prop)->Prop
def PO(X:Cx)(e:Option Expr)(t:TO):Prop:=
 ∀(pins:List (Addr×Obj)) (s:Shared) (σ:St) (H:Hp) (Q:Option Int->Hp->Prop),Inv X pins σ H s->t σ H Q->
  wpAny (model X.prog X.w) X.A (evalPart e X.env) (fun u s'=>∃o H',Inv X pins σ H' s'/\IsPart u o/\Q o H') X.xe s
noncomputable def Fy:TO:=fun _ H Q=>Q none H
noncomputable def D7(t:TE):TO:=fun σ H Q=>t σ H fun x H1=>∃i,x=.int i/\Q (some i) H1
theorem rL{ns:List Int}:∀{us:List Value},Vals (ns.map V.int) us->IntsAre us ns:=by
 induction ns with
 | nil=>intro us r;rw[aW] at r;cases r;exact .nil
 | cons n ns ih=>
  intro us r;rw[av] at r;cases r with
  | cons r1 r2=>
   obtain⟨t,e⟩:=r1;subst e;exact .cons n t (ih r2)
section
variable {X:Cx} {e:Expr} {te:TE} {lo hi:Option Expr} {tl th:TO} {pos p2:Pos}
theorem Fx:PO X none Fy:=by
 intro pins s σ H Q I h;rw[evalPart_none];exact ab ⟨none,H,I,.none,h⟩
theorem Fw(h:PE X e te):PO X (some e) (D7 te):=by
 intro pins s σ H Q I hw;rw[evalPart_some];refine cf (h pins s σ H _ I hw) fun u s1 bG=>?_
 obtain⟨x,H1,I1,r1,q1⟩:=bG;obtain⟨i,rfl,q⟩:=q1;obtain⟨t,rfl⟩:=r1;exact⟨some i,H1,I1,.int i t,q⟩
def oo(X:Cx)(r:V->Option Int->Option Int->Hp->VK->Prop):Prop:=
 ∀(pins:List (Addr×Obj)) (s:Shared) (σ:St) (H:Hp) (x:V) (v vl vu:Value) (lo hi:Option Int) (sl:Addr) (Q:VK),Inv X pins σ H s->RelV x v->s.heap.IsSliceOf sl vl vu .none->IsPart vl lo->IsPart vu hi->r x lo hi H Q->
  ∃T id,typeLookup (.type T) "__getitem__"=pure (some (.builtin id))/\s.TypeIs v T/\wpAny (model X.prog X.w) X.A (getItem v (.ref sl)) (EP X pins σ Q) X.xe s
theorem oo.or{r r':V->Option Int->Option Int->Hp->VK->Prop}(h:oo X r)(h':oo X r'):oo X (fun x lo hi H Q=>r x lo hi H Q\/r' x lo hi H Q):=by
 intro pins s σ H x v vl vu lo hi sl Q I rx hs pl pu q;rcases q with q | q
 ·exact h pins s σ H x v vl vu lo hi sl Q I rx hs pl pu q
 ·exact h' pins s σ H x v vl vu lo hi sl Q I rx hs pl pu q
def Ki(r:V->Option Int->Option Int->Hp->VK->Prop)(te:TE)(tl th:TO):TE:=fun σ H Q=>te σ H fun x H1=>tl σ H1 fun l H2=>th σ H2 fun u H3=>r x l u H3 Q
theorem F4{r:V->Option Int->Option Int->Hp->VK->Prop}(hr:oo X r)(he:PE X e te)(hl:PO X lo tl)(hu:PO X hi th):PE X (.Subscript e (.Slice lo hi none p2) pos) (Ki r te tl th):=by
 intro pins s σ H Q I h;refine Subscript_ (cf (he pins s σ H _ I h) fun v s1 bG=>?_);obtain⟨x,H1,I1,r1,q1⟩:=bG;refine wpAny_Slice (cf (hl pins s1 σ H1 _ I1 q1) fun vl s2 bG=>?_);obtain⟨l,H2,I2,pl,q2⟩:=bG;refine cf (hu pins s2 σ H2 _ I2 q2) fun vu s3 bG=>?_
 obtain⟨u,H3,I3,pu,q3⟩:=bG;rw[evalPart_none];refine ab ?_;have I4:Inv X pins σ H3 { s3 with heap:=s3.heap.push { cls:=.type "slice",data:=.fields #[vl,vu,.none] } }:=I3.kept (t':=s3.toks) fun b ob q=>ae _ q
 obtain⟨T,id,hT,ht,hg⟩:=hr pins { s3 with heap:=s3.heap.push { cls:=.type "slice",data:=.fields #[vl,vu,.none] } } σ H3 x v vl vu l u s3.heap.objs.size Q I4 r1 (Heap.IsSliceOf.new ..) pl pu q3;show wpAny (model X.prog X.w) X.A (subscriptTail e (.Slice lo hi none p2) v (.ref s3.heap.objs.size)) (EP X pins σ Q) X.xe { s3 with heap:=s3.heap.push { cls:=.type "slice",data:=.fields #[vl,vu,.none] } };exact tail_any (ops:=[.ref s3.heap.objs.size,v]) ht hT hg (by with_unfolding_all rfl)
noncomputable def l0(xs:List V)(lo hi:Option Int):List V:=(xs.drop (HT.cg xs.length 0 lo)).take (HT.cg xs.length xs.length hi-HT.cg xs.length 0 lo)
theorem By(xs:List V)(lo hi:Option Int):(l0 xs lo hi).length<=xs.length:=by
 unfold l0;rw[aL,List.length_drop];omega
def C9(K:PySem.W.Frag):V->Option Int->Option Int->Hp->VK->Prop:=fun x lo hi H Q=>∃a xs,x=.ref a/\da K H a xs/\
 ¬(HT.cg xs.length 0 lo=0/\HT.cg xs.length xs.length hi=xs.length)/\∀p,H p=none->Q (.ref p) (upd H p (.tup (l0 xs lo hi)))
theorem Fb:oo X (C9 X.K):=by
 intro pins s σ H x v vl vu lo hi sl Q I rx hs pl pu h;obtain⟨a,xs,rfl,hx,hw,q⟩:=h;cases rx;obtain⟨its,r,ht,hz⟩:=I.tuple hx;have hlen:its.toArray.size=xs.length:=by rw[ah];exact r.length.symm
 refine⟨"tuple",_,PyProof.Rows.slot_tuple_getitem.lookup,ht.typeIs,?_⟩;refine HT.fF ht hs pl pu (by rw[hlen];exact hw) ?_ (by rw[hlen];exact hz);rw[hlen];refine⟨.ref s.heap.objs.size,_,I.laid (t':=s.toks) (o:=.tup (l0 xs lo hi)) (fun b ob q=>ae _ q) (aq _) ?_,rfl,q _ (I.bX.fresh (aq _))⟩;exact⟨aJ (By xs lo hi) hz,_,(r.drop (HT.cg xs.length 0 lo)).take (HT.cg xs.length xs.length hi-HT.cg xs.length 0 lo),IsTup.new _ _⟩
end
end L2
namespace L2
open PySem PySem.Spec PyProof.Rows
noncomputable def n8(n:Nat)(i:Int):Option Nat:=if 0<=i then(if i<n then some i.toNat else none) else if -(n:Int)<=i then some (i+n).toNat else none
noncomputable def cQ{α:Type}(xs:List α)(i:Int):Option α:=(n8 xs.length i).bind fun j=>xs[j]?
theorem Fv{n:Nat}{i:Int}{j:Nat}(h:n8 n i=some j):seqIndex? i n=some j/\j<n/\-(n:Int)<=i/\i<n:=by
 unfold n8 at h;by_cases h0:0<=i
 ·rw[if_pos h0] at h;by_cases h1:i<n
  ·rw[if_pos h1] at h;have e:i.toNat=j:=Option.some.inj h;exact⟨by rw[seqIndex_of h0 h1,e],by omega,by omega,h1⟩
  ·rw[if_neg h1] at h;cases h
 ·rw[if_neg h0] at h;by_cases h1:-(n:Int)<=i
  ·rw[if_pos h1] at h;have e:(i+n).toNat=j:=Option.some.inj h;exact⟨by rw[seqIndex_neg (by omega) h1,e],by omega,h1,by omega⟩
  ·rw[if_neg h1] at h;cases h
theorem pO{α:Type}{xs:List α}{i:Int}{v:α}(h:cQ xs i=some v):∃j,seqIndex? i xs.length=some j/\xs[j]?=some v/\j<xs.length/\-(xs.length:Int)<=i/\i<xs.length:=by
 unfold cQ at h;cases e:n8 xs.length i with
 | none=>rw[e] at h;cases h
 | some j=>
  rw[e] at h;obtain⟨h1,h2,h3,h4⟩:=Fv e;exact⟨j,h1,h,h2,h3,h4⟩
def vX(b:Expr):Prop:=∀o i,subscripted b false o i=operate [o,i] (getItem o i)
def nB(X:Cx)(r:R2):Prop:=
 ∀(value slice:Expr) (pins:List (Addr×Obj)) (s:Shared) (σ:St) (H:Hp) (x y:V) (v u:Value) (Q:VK),Inv X pins σ H s->RelV x v->RelV y u->r x y H Q->
  subscripted slice false v u=operate [v,u] (getItem v u)->wpAny (model X.prog X.w) X.A (subscriptTail value slice v u) (EP X pins σ Q) X.xe s
def y3(X:Cx)(id:String)(r:V->List V->Hp->VK->Prop):Prop:=
 ∀(pins:List (Addr×Obj)) (s:Shared) (σ:St) (H:Hp) (x:V) (xs:List V) (v:Value) (us:List Value) (Q:VK),Inv X pins σ H s->RelV x v->Vals xs us->r x xs H Q->
  wpAny (model X.prog X.w) X.A (call (.builtin id) (v::us)) (EP X pins σ Q) X.xe s
section
variable {X:Cx} {a b:Expr} {ta tb:TE} {pos:Pos}
theorem nB.or{r r':R2}(h:nB X r)(h':nB X r'):nB X (fun x y H Q=>r x y H Q\/r' x y H Q):=by
 intro value slice pins s σ H x y v u Q I rx ry q hs;rcases q with q | q
 ·exact h value slice pins s σ H x y v u Q I rx ry q hs
 ·exact h' value slice pins s σ H x y v u Q I rx ry q hs
theorem zE{r:R2}(hr:nB X r)(ha:PE X a ta)(hb:PE X b tb)(hs:vX b):PE X (.Subscript a b pos) (rX r ta tb):=by
 intro pins s σ H Q I h;exact Subscript_ (vw ha hb I h fun v u s2 x y H2 I2 rx ry q=>hr a b pins s2 σ H2 x y v u Q I2 rx ry q (hs _ _))
def zg(K:PySem.W.Frag):R2:=fun x y H Q=>∃p xs i v,x=.ref p/\y=.int i/\cN K H p xs/\cQ xs i=some v/\Q v H
def zf(K:PySem.W.Frag):R2:=fun x y H Q=>∃p xs i v,x=.ref p/\y=.int i/\da K H p xs/\cQ xs i=some v/\Q v H
def ze:R2:=fun x y H Q=>∃z i c,x=.str z/\y=.int i/\z.length<=sizeLine/\cQ z.cps.toList i=some c/\Q (.str ⟨#[c]⟩) H
theorem m8:nB X (zg X.K):=by
 intro value slice pins s σ H x y v u Q I rx ry h hs;obtain⟨p,xs,i,z,rfl,rfl,hq,he,q⟩:=h;cases rx;obtain⟨t,rfl⟩:=ry;obtain⟨its,r,pl,hz⟩:=I.list hq;obtain⟨j,h1,h2,h3,h4,h5⟩:=pO he;obtain⟨w,ew,ml⟩:=r.get h2;have hl:=r.length;have hn:=qO;have fin:EP X pins σ Q w s:=⟨z,H,I,ml,q⟩
 by_cases h0:0<=i
 ·have hj:i.toNat=j:=by
   rw[seqIndex_of h0 h5] at h1;exact Option.some.inj h1
  exact item_listR pl.isList h0 (by omega) (by rw[hj];simpa using ew) fin hs
 ·have hj:(i+(its.toArray.size:Int)).toNat=j:=by
   rw[seqIndex_neg (by omega) h4] at h1;rw[ah,<-hl];exact Option.some.inj h1
  exact subscriptTail_builtinR (x:=w) pl.isList.typeIs slot_list_getitem.lookup
   (wpAny_getItem_list_neg (Q:=fun r s'=>r=w/\EP X pins σ Q r s') pl.isList (by omega) (by rw[ah]<;>omega) (by omega) (by rw[hj];simpa using ew) ⟨rfl,fin⟩) hs
theorem oW:nB X (zf X.K):=by
 intro value slice pins s σ H x y v u Q I rx ry h hs;obtain⟨p,xs,i,z,rfl,rfl,hq,he,q⟩:=h;cases rx;obtain⟨t,rfl⟩:=ry;obtain⟨its,r,pl,hz⟩:=I.tuple hq;obtain⟨j,h1,h2,h3,h4,h5⟩:=pO he;obtain⟨w,ew,ml⟩:=r.get h2;have hl:=r.length;have hn:=qO;have fin:EP X pins σ Q w s:=⟨z,H,I,ml,q⟩
 exact subscriptTail_builtinR (x:=w) pl.typeIs slot_tuple_getitem.lookup
  (getItem_tuple (j:=j) (Q:=fun r s'=>r=w/\EP X pins σ Q r s') pl (by omega) (by omega) (by rw[ah,<-hl];exact h1) (by simpa using ew) ⟨rfl,fin⟩) hs
theorem E9:nB X ze:=by
 intro value slice pins s σ H x y v u Q I rx ry h hs;obtain⟨z,i,c,rfl,rfl,hz,he,q⟩:=h;obtain⟨t,rfl⟩:=rx;obtain⟨t',rfl⟩:=ry;obtain⟨j,h1,h2,h3,h4,h5⟩:=pO he;have hl:z.cps.toList.length=z.length:=by simp[Str.length]
 rw[hl] at h1 h4 h5;have hn:=qO
 exact tail_any (typeIs_str s z t) slot_str_getitem.lookup (getItem_str (c:=c) (by
  have e1:decide (i < -(2 ^ 63:Int))=false:=decide_eq_false (by omega);have e2:decide (i>=2 ^ 63)=false:=decide_eq_false (by omega)
  rw[e1,e2,Bool.or_false]) (by rw[h1];simpa using h2) ⟨.str ⟨#[c]⟩,H,I.tok _,⟨_,rfl⟩,q⟩) hs
def BQ(K:PySem.W.Frag):R2:=fun x y H Q=>zg K x y H Q\/zf K x y H Q\/ze x y H Q
theorem zU:nB X (BQ X.K):=m8.or (oW.or E9)
theorem Iz(lo hi:Option Int)(n:Nat):(sliceBounds lo hi none n).1=((HT.cg n 0 lo:Nat):Int)/\(sliceBounds lo hi none n).2.1=((HT.cg n n hi:Nat):Int)/\(sliceBounds lo hi none n).2.2=1:=by
 refine⟨?_,?_,rfl⟩
 ·cases lo with
  | none=>simp[sliceBounds,HT.cg]
  | some i=>
   simp only[sliceBounds,HT.cg,Option.getD_none,show(1:Int)>0 by decide,aY];by_cases h:i<0
   ·simp only[h,aY]<;>omega
   ·simp only[h,aU]<;>omega
 ·cases hi with
  | none=>simp[sliceBounds,HT.cg]
  | some i=>
   simp only[sliceBounds,HT.cg,Option.getD_none,show(1:Int)>0 by decide,aY];by_cases h:i<0
   ·simp only[h,aY]<;>omega
   ·simp only[h,aU]<;>omega
theorem Jg(its:List Value)(lo hi:Option Int):slicePick its.toArray lo hi none=((its.drop (HT.cg its.length 0 lo)).take (HT.cg its.length its.length hi-HT.cg its.length 0 lo)).toArray:=by
 obtain⟨h1,h2,h3⟩:=Iz lo hi its.toArray.size;unfold slicePick;rw[h1,h2,h3];simp only[sliceRange_one,pick_run,ah]<;>rfl
def C8(K:PySem.W.Frag):V->Option Int->Option Int->Hp->VK->Prop:=fun x lo hi H Q=>∃a xs,x=.ref a/\cN K H a xs/\∀p,H p=none->Q (.ref p) (upd H p (.lst (l0 xs lo hi)))
theorem mW:oo X (C8 X.K):=by
 intro pins s σ H x v vl vu lo hi sl Q I rx hs pl pu h;obtain⟨a,xs,rfl,hx,q⟩:=h;cases rx;obtain⟨its,r,ht,hz⟩:=I.list hx;have hlen:=r.length;refine⟨"list",_,slot_list_getitem.lookup,ht.isList.typeIs,?_⟩;refine wpAny_getItem_list_slice ht.isList hs pl pu .none (by simp) ?_ (by rw[ah]<;>omega);rw[Jg,<-hlen];refine⟨.ref s.heap.objs.size,_,I.laid (t':=s.toks) (o:=.lst (l0 xs lo hi)) (fun b ob q=>ae _ q) (aq _) ?_,rfl,q _ (I.bX.fresh (aq _))⟩;exact⟨aJ (By xs lo hi) hz,_,0,(r.drop (HT.cg xs.length 0 lo)).take (HT.cg xs.length xs.length hi-HT.cg xs.length 0 lo),ao _ rfl⟩
noncomputable def tW:V->Bool
 | .non=>true
 | .bl _=>true
 | .int _=>true
 | .str _=>true
 | _=>false
noncomputable def yV:V->V->Bool
 | .non,.non=>true
 | .bl a,.bl b=>a==b
 | .bl a,.int b=>(if a then 1 else 0)==b
 | .int a,.bl b=>a==(if b then 1 else 0)
 | .int a,.int b=>a==b
 | .str a,.str b=>a==b
 | _,_=>false
theorem zT{A:Around}{s:Shared}{y x:V}{u v:Value}(ry:RelV y u)(rx:RelV x v)(fy:tW y=true)(fx:tW x=true):SeqAt.EqAt A s u v (yV y x):=by
 cases y with
 | non=>
  cases ry;cases x with
  | non=>cases rx;exact SeqAt.EqAt.same _
  | bl b=>cases rx;exact SeqAt.EqAt.none_bool b
  | int b=>obtain⟨t,rfl⟩:=rx;exact SeqAt.EqAt.none_int b t
  | str b=>obtain⟨t,rfl⟩:=rx;exact SeqAt.EqAt.none_str b t
  | _=>exact absurd (show false=true from fx) aG
 | bl a=>
  cases ry;cases x with
  | non=>cases rx;exact SeqAt.EqAt.bool_none a
  | bl b=>cases rx;exact SeqAt.EqAt.bool_bool a b
  | int b=>obtain⟨t,rfl⟩:=rx;exact SeqAt.EqAt.bool_int a b t
  | str b=>obtain⟨t,rfl⟩:=rx;exact SeqAt.EqAt.bool_str a b t
  | _=>exact absurd (show false=true from fx) aG
 | int a=>
  obtain⟨t',rfl⟩:=ry;cases x with
  | non=>cases rx;exact SeqAt.EqAt.int_none a t'
  | bl b=>cases rx;exact SeqAt.EqAt.int_bool a t' b
  | int b=>obtain⟨t,rfl⟩:=rx;exact SeqAt.EqAt.int_int a t' b t
  | str b=>obtain⟨t,rfl⟩:=rx;exact SeqAt.EqAt.int_str a t' b t
  | _=>exact absurd (show false=true from fx) aG
 | str a=>
  obtain⟨t',rfl⟩:=ry;cases x with
  | non=>cases rx;exact SeqAt.EqAt.str_none a t'
  | bl b=>cases rx;exact SeqAt.EqAt.str_bool a t' b
  | int b=>obtain⟨t,rfl⟩:=rx;exact SeqAt.EqAt.str_int a t' b t
  | str b=>obtain⟨t,rfl⟩:=rx;exact SeqAt.EqAt.str_str a t' b t
  | _=>exact absurd (show false=true from fx) aG
 | _=>exact absurd (show false=true from fy) aG
theorem ij:fH X (compareOp .NotIn) (fun x y H Q=>∃i j,x=.str i/\y=.str j/\Q (.bl (!(!(Builtin.Str.occurrences j i 0 j.length 1).isEmpty))) H):=by
 intro pins s σ H x y v u Q I rx ry h;obtain⟨i,j,rfl,rfl,q⟩:=h;obtain⟨t,rfl⟩:=rx;obtain⟨t',rfl⟩:=ry;exact notIn_str ⟨.bl _,H,I,rfl,q⟩
theorem ir:cb X (.builtin "len") (fun xs H Q=>∃p ys,xs=[.ref p]/\(cN X.K H p ys\/da X.K H p ys)/\Q (.int ys.length) H):=by
 intro pins s σ H xs us Q I r h;obtain⟨p,ys,rfl,hq,q⟩:=h;obtain⟨u,rfl,rx⟩:=ie r;cases rx;have hn:=qO;rcases hq with hq | hq
 ·obtain⟨its,r',pl,hz⟩:=I.list hq;have hlen:=r'.length;exact Calls.call_len_list pl.isList (by simp only[ah]<;>omega) ⟨.int ys.length,H,I.tok _,⟨s.toks+1,by rw[ah,hlen]⟩,q⟩
 ·obtain⟨its,r',pl,hz⟩:=I.tuple hq;have hlen:=r'.length;exact len_tuple pl (by simp only[ah]<;>omega) ⟨.int ys.length,H,I.tok _,⟨s.toks+1,by rw[ah,hlen]⟩,q⟩
theorem Iy:cb X (.builtin "len") (fun xs H Q=>∃z,xs=[.str z]/\z.length<=sizeLine/\Q (.int z.length) H):=by
 intro pins s σ H xs us Q I r h;obtain⟨z,rfl,hz,q⟩:=h;obtain⟨u,rfl,t,rfl⟩:=ie r;have hn:=qO;exact len_str (by omega) ⟨.int z.length,H,I.tok _,⟨_,rfl⟩,q⟩
theorem cb.or{f:Value}{r r':List V->Hp->VK->Prop}(h:cb X f r)(h':cb X f r'):cb X f (fun xs H Q=>r xs H Q\/r' xs H Q):=by
 intro pins s σ H xs us Q I rs q;rcases q with q | q
 ·exact h pins s σ H xs us Q I rs q
 ·exact h' pins s σ H xs us Q I rs q
theorem BE:cb X (.type "list") (fun xs H Q=>∃p ys,xs=[.ref p]/\(cN X.K H p ys\/da X.K H p ys)/\∀l,H l=none->Q (.ref l) (upd H l (.lst ys))):=by
 intro pins s σ H xs us Q I r h;obtain⟨p,ys,rfl,hq,q⟩:=h;obtain⟨u,rfl,rx⟩:=ie r;cases rx;have fin:∀(its:List Value),Vals ys its->ys.length<=sizeLine->∀(h':Heap) (c':Nat),(∀b o',s.heap.get? b=some o'->h'.get? b=some o')->
   h'.get? s.heap.objs.size=some { cls:=.type "list",dict:=none,data:=.seq its.toArray c',slots:=#[] }->EP X pins σ Q (.ref s.heap.objs.size) { s with heap:=h' }:=fun its r' hz h' c' kp e=>
  ⟨.ref s.heap.objs.size,_,I.laid (t':=s.toks) kp (aq _) (show cJ X.prog X.w _ h' _ (.lst ys) from⟨hz,its,c',r',e⟩),rfl,q _ (I.bX.fresh (aq _))⟩
 rcases hq with hq | hq
 ·obtain⟨its,r',pl,hz⟩:=I.list hq;have hlen:=r'.length;obtain⟨o,ho,hc,n,hd⟩:=pl.isList;exact call_list_seq p (.inl rfl) ho hc hd (fun h' c' kp e=>fin its r' hz h' c' kp e) (by simp only[ah]<;>omega)
 ·obtain⟨its,r',pl,hz⟩:=I.tuple hq;have hlen:=r'.length;obtain⟨o,ho,hc,n,hd⟩:=pl;exact call_list_seq p (.inr rfl) ho hc hd (fun h' c' kp e=>fin its r' hz h' c' kp e) (by simp only[ah]<;>omega)
def uK(K:PySem.W.Frag)(T:String)(x:V)(H:Hp):Prop:=match x with
 | .str _=>T="str"
 | .int _=>T="int"
 | .ref p=>(T="list"/\∃xs,cN K H p xs)\/(T="tuple"/\∃o,K.lookup p=some o/\o.cls=.type "tuple"/\o.dict=none)\/
   (T="dict"/\((∃bS ep,H p=some (.dK bS ep))\/∃bS bs,H p=some (.dT bS bs)))\/(T="set"/\∃S n,H p=some (.set S n))
 | _=>False
theorem zS{pins:List (Addr×Obj)}{σ:St}{H:Hp}{s:Shared}{T:String}{x:V}{v:Value}(I:Inv X pins σ H s)(r:RelV x v)(ty:uK X.K T x H) :
  s.TypeIs v T/\∀a,v=.ref a->∃ob,s.heap.get? a=some ob/\ob.dict=none:=by
 cases x with
 | str z=>
  obtain⟨t,rfl⟩:=r;cases (show T="str" from ty);exact⟨typeIs_str s z t,fun _ e=>nomatch e⟩
 | int i=>
  obtain⟨t,rfl⟩:=r;cases (show T="int" from ty);exact⟨typeIs_int s i t,fun _ e=>nomatch e⟩
 | ref p=>
  cases r;rcases ty with⟨rfl,xs,hq⟩ | ⟨rfl,o,hk,hc,hd⟩ | ⟨rfl,hk⟩ | ⟨rfl,S,n,hk⟩
  ·obtain⟨its,_,pl,_⟩:=I.list hq;refine⟨pl.isList.typeIs,fun a e=>?_⟩;cases e;obtain⟨o,n,e,c,hd,_⟩:=pl;exact⟨o,e,hd⟩
  ·refine⟨⟨o,I.iI p o hk,hc⟩,fun a e=>?_⟩;cases e;exact⟨o,I.iI _ o hk,hd⟩
  ·have z:∃o,s.heap.get? p=some o/\o.ExactDict:=by
    rcases hk with⟨bS,ep,hk⟩ | ⟨bS,bs,hk⟩
    ·obtain⟨_,_,_,_,o,_,e,ex,_⟩:=I.bX p _ hk;exact⟨o,e,ex⟩
    ·obtain⟨_,_,_,_,_,o,_,_,e,ex,_⟩:=I.bX p _ hk;exact⟨o,e,ex⟩
   obtain⟨o,e,ex⟩:=z;refine⟨⟨o,e,ex.1⟩,fun a e2=>?_⟩;cases e2;exact⟨o,e,ex.2.1⟩
  ·obtain⟨o,_,_,_,e,ex,_⟩:=I.bX p _ hk;refine⟨⟨o,e,ex.1⟩,fun a e2=>?_⟩;cases e2;exact⟨o,e,ex.2.1⟩
 | _=>exact False.elim ty
def zd(K:PySem.W.Frag)(T:String)(r:V->List V->Hp->VK->Prop)(to:TE):TE:=fun σ H Q=>to σ H fun x H1=>uK K T x H1/\r x [] H1 Q
def xH(K:PySem.W.Frag)(T:String)(r:V->List V->Hp->VK->Prop)(to:TE)(t:TA):TE:=fun σ H Q=>to σ H fun x H1=>uK K T x H1/\t σ H1 fun xs H2=>r x xs H2 Q
variable {o e:Expr} {es:List Expr} {to:TE} {t:TA} {name:Str} {apos fG:Pos} {T id:String} {r:V->List V->Hp->VK->Prop}
theorem E8(pa:PlainAttrs T)(slot:Slot T name id)(sJ:typeOf (.builtin id)=pure (.type "method_descriptor"))(hm:y3 X id r)(ho:PE X o to)
  (i8:attributeBase o name X.env (eval o X.env)=eval o X.env:=by rfl) (i6:(apos.endLine==fG.line)=true:=by rfl):PE X (.Call (.Attribute o name apos) [] [] fG) (zd X.K T r to):=by
 intro pins s σ H Q I h;refine wpAny_Call_method0_late i8 i6 (cf (ho pins s σ H _ I h) fun v s1 bG=>?_);obtain⟨x,H1,I1,r1,ty,q1⟩:=bG;obtain⟨h1,h2⟩:=zS I1 r1 ty;exact⟨T,id,pa,slot,sJ,h1,h2,Calls.callWith_builtin rfl (PySem.evalArgs_none (hm pins s1 σ H1 x [] v [] Q I1 r1 .nil q1))⟩
theorem vG(pa:PlainAttrs T)(slot:Slot T name id)(sJ:typeOf (.builtin id)=pure (.type "method_descriptor"))(hm:y3 X id r)(ho:PE X o to)(ha:PA X (e::es) t)
  (i8:attributeBase o name X.env (eval o X.env)=eval o X.env:=by rfl)
  (o7:((backTo fG (starEach (e::es) X.env)).all (fun x=>!x.1)&&(backToKw fG (keywordEach [] X.env)).all (fun x=>x.1.isSome)
   && decide ((e::es).length+([]:List Keyword).length+(if ([]:List Keyword).isEmpty then 0 else 1)<30))=true:=by rfl)
  (i6:(apos.endLine==fG.line)=true:=by rfl) (hs:starEach (e::es) X.env=(false,eval e X.env)::starEach es X.env:=by rfl) (jF:(backTo fG (starEach es X.env)).any (·.1)=false:=by rfl) :
  PE X (.Call (.Attribute o name apos) (e::es) [] fG) (xH X.K T r to t):=by
 intro pins s σ H Q I h;refine wpAny_Call_method_late i8 o7 i6 rfl (cf (ho pins s σ H _ I h) fun v s1 bG=>?_);obtain⟨x,H1,I1,r1,ty,q1⟩:=bG;obtain⟨h1,h2⟩:=zS I1 r1 ty;refine⟨T,id,pa,slot,sJ,h1,h2,?_⟩;have hA:=ha fG pins s1 σ H1 _ I1 q1;rw[hs] at hA ⊢;refine Calls.callWith_builtin (by show(false||(backTo fG (starEach es X.env)).any (·.1))=false;rw[jF]<;>rfl) (Calls.evalArgs_plain ?_);exact cf hA fun us s2 bG=>by obtain⟨vs,H2,I2,r2,q2⟩:=bG;exact hm pins s2 σ H2 x vs v us Q I2 r1 r2 q2
end
end L2
namespace L2
open PySem PySem.Spec PyProof.Rows
def y4(X:Cx)(id:String)(r:V->List V->Hp->VK->Prop):Prop:=
 ∀(pins:List (Addr×Obj)) (s:Shared) (σ:St) (H:Hp) (x:V) (xs:List V) (v:Value) (us:List Value) (Q:VK),Inv X pins σ H s->RelV x v->Vals xs us->r x xs H Q->
  wpAny (model X.prog X.w) X.A (call (.builtin id) (v::us)) (EP X pins σ Q) X.xe s
theorem Vals.one:∀{x:V} {us:List Value},Vals [x] us->∃u,us=[u]/\RelV x u
 | _,_,.cons r .nil=>⟨_,rfl,r⟩
theorem Vals.zero:∀{us:List Value},Vals [] us->us=[]
 | _,.nil=>rfl
theorem Mg{α:Type}(l:List α):l.eraseIdx (l.length-1)=l.dropLast:=by
 induction l with
 | nil=>rfl
 | cons a r ih=>
  cases r with
  | nil=>rfl
  | cons b r=>
   have e:(a::b::r).length-1=((b::r).length-1)+1:=by
    have h1:(a::b::r).length=r.length+2:=rfl;have h2:(b::r).length=r.length+1:=rfl;omega
   rw[e,List.eraseIdx_cons_succ,ih];all_goals rfl
section
variable {X:Cx} {pins:List (Addr×Obj)} {σ:St} {H:Hp} {s:Shared} {l b:Addr} {xs ys zs:List V}
theorem Inv.oU{its its':List Value}{n:Nat}{f:Array Value->Array Value}{t':Nat}(I:Inv X pins σ H s)(hH:H l=some (.lst xs))
  (e:s.heap.get? l=some { cls:=.type "list",data:=.seq its.toArray n }) (hf:f its.toArray=its'.toArray) (hv:Vals ys its') (hz:ys.length<=sizeLine) :
  Inv X pins σ (upd H l (.lst ys)) { s with heap:=s.heap.update l (Obj.mapSeq f),toks:=t' }:=by
 have q:=PySem.IsL.update e f;rw[hf] at q;refine I.write (x:=l) (e:=l) (by rw[hH];exact trivial) (.inl rfl) (fun b' u hb hu=>(Heap.get?_update_other s.heap (Obj.mapSeq f) (Ne.symm hb)).trans hu) ⟨_,q⟩ ?_;exact⟨hz,its',_,hv,q⟩
theorem Inv.sA{its:List Value}{t':Nat}(I:Inv X pins σ H s)(hv:Vals ys its)(hz:ys.length<=sizeLine) :
  Inv X pins σ (upd H s.heap.objs.size (.lst ys)) { s with heap:=s.heap.push { cls:=.type "list",data:=.seq its.toArray },toks:=t' }:=
 I.laid (fun _ _ q=>ae _ q) (aq _) ⟨hz,its,0,hv,ao _ rfl⟩
theorem Inv.fresh(I:Inv X pins σ H s):H s.heap.objs.size=none:=I.bX.fresh (aq _)
theorem Inv.m7(I:Inv X pins σ H s)(hH:H l=some (.lst xs)):xs.length<=sizeLine/\∃(its:List Value) (n:Nat),Vals xs its/\xs.length=its.length/\s.heap.get? l=some { cls:=.type "list",data:=.seq its.toArray n }:=by
 obtain⟨z,its,n,r,e⟩:=I.bX l _ hH;exact⟨z,its,n,r,r.length,e⟩
theorem F3{n:Nat}(h:n<=sizeLine):Builtin.List.listTooLong n=false:=by
 unfold Builtin.List.listTooLong;exact decide_eq_false (by omega)
end
section
variable {X:Cx}
def As:V->List V->Hp->VK->Prop:=fun x vs H Q=>∃l xs y,x=.ref l/\vs=[y]/\H l=some (.lst xs)/\xs.length<sizeLine/\Q .non (upd H l (.lst (xs++[y])))
theorem A6:y4 X "list.append" As:=by
 intro pins s σ H x vs v us Q I rx rv h;obtain⟨l,xs,y,rfl,rfl,hH,hz,q⟩:=h;cases rx;obtain⟨u,rfl,ru⟩:=rv.one;obtain⟨z,its,n,r,hl,e⟩:=I.m7 hH;refine call_meets F.slot_list_append ⟨_,e,rfl⟩ F.entry_list_append (F.args_list_append_2 _ _) (PySem.list_append l its.toArray n u (by rw[ah];omega)) ⟨e,?_⟩;refine⟨.non,_,I.oU (its':=its++[u]) hH e (by simp) (r.append (.cons ru .nil)) ?_,rfl,q⟩;rw[au,List.length_singleton];omega
def Ar:V->List V->Hp->VK->Prop:=fun x vs H Q=>∃l b xs zs,x=.ref l/\vs=[.ref b]/\H l=some (.lst xs)/\H b=some (.lst zs)/\xs.length+zs.length<=sizeLine/\Q .non (upd H l (.lst (xs++zs)))
theorem HQ:y4 X "list.extend" Ar:=by
 intro pins s σ H x vs v us Q I rx rv h;obtain⟨l,b,xs,zs,rfl,rfl,hH,hB,hz,q⟩:=h;cases rx;obtain⟨u,rfl,ru⟩:=rv.one;cases ru;obtain⟨z,its,n,r,hl,e⟩:=I.m7 hH;obtain⟨z2,gT,n2,r2,uY,e2⟩:=I.m7 hB;have d0:its.toArray.size+gT.toArray.size<=sizeLine:=by rw[ah,ah];omega
 have sT:¬(!its.toArray.isEmpty&&Builtin.List.listTooLong (its.toArray.size+gT.toArray.size))=true:=by
  rw[F3 d0,Bool.and_false];exact aG
 refine call_meets F.slot_list_extend ⟨_,e,rfl⟩ F.entry_list_extend (F.args_list_extend_2 _ _)
  (AutoSeq1.list_extend_list_list_0 l its.toArray n b gT.toArray n2 sT (by rw[ah];omega) (by omega)) ⟨e,e2,?_⟩
 refine⟨.non,_,I.oU (its':=its++gT) hH e (by simp) (r.append r2) ?_,rfl,q⟩;rw[au];omega
def zR:V->List V->Hp->VK->Prop:=fun x vs H Q=>∃l xs,x=.ref l/\vs=[]/\H l=some (.lst xs)/\Q .non (upd H l (.lst []))
theorem F2:y4 X "list.clear" zR:=by
 intro pins s σ H x vs v us Q I rx rv h;obtain⟨l,xs,rfl,rfl,hH,q⟩:=h;cases rx;have K8:=rv.zero;subst K8;obtain⟨z,its,n,r,hl,e⟩:=I.m7 hH;refine call_meets F.slot_list_clear ⟨_,e,rfl⟩ F.entry_list_clear (F.args_list_clear_1 _) (AutoSeq1.list_clear_list_0 l its.toArray n (by rw[ah];omega)) ⟨e,?_⟩;exact⟨.non,_,I.oU (its':=[]) (ys:=[]) hH e rfl .nil (Nat.zero_le _),rfl,q⟩
end
section
variable {prog:Program} {w:World} {A:Around} {E:Value->Shared->Prop} {s:Shared}
end
end L2
namespace CO
open PySem PySem.W PySem.Calls PyProof.Rows
theorem Jk{P:Params}{h:Heap}:∀(ns:List Int) (vs:List Value),WellAll P h vs (ns.map WData.int)->IntsAre vs ns:=by
 intro ns;induction ns with
 | nil=>
  intro vs w;rw[aW] at w;cases w;exact .nil
 | cons n ns ih=>
  intro vs w;rw[av] at w;cases w with
  | cons a b=>
   cases a;exact .cons _ _ (ih _ b)
theorem HP{l:OpenLaw}{n:Nat}(hn:l.most=some n){P:Params}{h:Heap}{args:List WData}{vals:List Value}
  (ng:l.row.toRowW.claim.pre args=true) (oY:WellAll P h vals args) :
  ∃a vs ns,vals=[Value.ref a]/\args=[WData.list (ns.map WData.int)]/\h.get? a=some { cls:=.type "list",data:=.seq vs.toArray }/\IntsAre vs ns/\ns.length<=n:=by
 have Lb:WShape.hasAll [] args [.list .int]=true:=(pre_splitW ng).1;have hc:l.pre.holds [] { args:=args }=true:=(pre_splitW ng).2;obtain⟨d,r,rfl,h1,h2⟩:=hasAllW_cons Lb;obtain rfl:=hasAllW_nil h2;obtain⟨xs,rfl,h3⟩:=hasW_list h1;obtain⟨ns,rfl⟩:=items_int h3;have hlen:ns.length<=n:=by
  unfold OpenLaw.pre at hc;have h4:(WTm.not (.lt (.lit (.int (n:Int))) (.len (.arg 0)))).holds [] { args:=[.list (ns.map .int)] }=true:=by
   have h4:=(holds_andW hc).1;rw[hn] at h4;exact h4
  have h5:=condW_of h4 (w_not (w_lt w_lit (w_len_list (w_arg rfl))));rw[af] at h5;refine Nat.le_of_not_lt fun q=>?_
  have q':(n:Int)<((ns.length:Nat):Int):=by omega
  first
   | (rw[decide_eq_true q'] at h5;exact absurd h5 (by decide))
   | (simp at h5;omega)
 cases oY with
 | cons w1 w2=>
  cases w2;cases w1 with
  | list ho yK=>exact⟨_,_,ns,rfl,rfl,ho,Jk ns _ yK,hlen⟩
theorem HN(l:OpenLaw)(args:List WData):l.row.toRowW.claim.post args (.bool true) args=true:=
 postW_of (r:=l.row.toRowW) (X:=(true==true))
  (show WShape.has [] (.bool true) .bool=true by first | rfl | decide | simp[WShape.has,WShape.arms,WShape.armsAll])
  (show(WTm.eq .res (.lit (.bool true))).value [] { args:=args,res:=some (.bool true),after:=args }=some (.bool (true==true)) from w_eq_bool (w_res rfl) w_lit) rfl
theorem jb{l:OpenLaw}{n:Nat}{q:Program}{loose:List Str}{XP:(Str->Option Value)->Heap->Prop}{YP:World->Heap->Prop}{d:DefRec}
  (hn:l.most=some n) (yG:d.params.defaults=[])
  (call:∀(w:World) (cT bI:Shared) (mg mb:Str->Option Value) (fa:Addr) (o:Obj) (pm cd doc:Value) (a:Addr) (vs:List Value) (ns:List Int),
   Ground q loose [] XP w cT mg mb bI.heap->YP w bI.heap->
   bI.heap.get? fa=some o->o.data=.func (docDef d.name d.params d.body d.scope pm cd doc)->bI.heap.CodeRec cd d.name->mg d.name=some (.ref fa)->
   bI.heap.get? a=some { cls:=.type "list",data:=.seq vs.toArray }->IntsAre vs ns->ns.length<=n->bI.gens=#[]->
   codeAny (model l.prog w) callerA (.call (.ref fa) ⟨[.ref a],[]⟩) (fun r s'=>r=.ok (.ret (.bool true))/\OldK bI.heap s'.heap/\s'.os=bI.os/\AllBare s'.gens) bI) :
  WalkO q loose XP YP l.row.toRowW d [] (fun f vs=>PySem.call f vs):=by
 intro w cT bI mg mb G Y fa o pm cd doc dV kV ho hd fL hD nk hg args vals as ng Lk Mr oY yr;obtain rfl:dV=.none:=Dflts.none hD yG;obtain rfl:kV=.none:=Dflts.noKw hD;obtain⟨a,vs,ns,rfl,rfl,nh,hints,hlen⟩:=HP hn ng oY;refine enter_call (codeAny_mono (call w cT bI mg mb fa o pm cd doc a vs ns G Y ho (fd_plain hd) fL nk nh hints hlen hg) fun r s' hq=>?_);obtain⟨rfl,h2,h3,h4⟩:=hq;exact⟨.inl ⟨.bool true,.bool true,[],rfl,fun _=>rfl,.bool true,HN l _,fun _=>⟨List.Pairwise.nil,fun _ hm=>(nomatch hm)⟩⟩,h2,h3,h4⟩
end CO
namespace L2
open PySem PySem.Spec PyProof.Rows
theorem wM:∀{vs:List Value} {ns:List Int},IntsAre vs ns->Vals (ns.map V.int) vs
 | _,_,.nil=>.nil
 | _,_,.cons n t h=>.cons ⟨t,rfl⟩ (wM h)
def zc(H:Hp):Prop:=∀b,H b=none\/∃o xs,H b=some (.hX o (.lst xs))
theorem F1{P:Program}{w:World}{K:PySem.W.Frag}{mg mb:Str->Option Value}{CX:nC}{k:Nat}{fa a:Addr}{fd:FuncData}{x:Str}{sp:Sp}{bI:Shared}{vs:List Value}{ns:List Int}
  (KX:K.In bI.heap) (j2:bI.heap.Ns mainGlobals mg) (hb:bI.heap.Ns builtinsNs mb) (LB:∀x:Str,x≠"__name__"->mb x=bootBuiltins x) (yv:bI.heap.NoLimit) (hg:bI.gens=#[])
  (ha:bI.heap.get? a=some { cls:=.type "list",data:=.seq vs.toArray }) (hi:IntsAre vs ns) (hl:ns.length<=sizeLine) (hr:cm k callerA)
  (F:∀base:Heap,K.In base->base.Ns mainGlobals mg->eT P w K mg base CX k fa fd [x] sp) (tq:∀(s:Shared) (u:Value),BindsTo s fd ⟨[u],[]⟩ [(x,u)])
  (qf:∀H:Hp,zc H->cN K H a (ns.map V.int)->sp [.ref a] H (fun v _=>v=.bl true) fun _ _ _=>False)
  (LP:∀H e s',CX [] H bI (fun _ _ _=>False) e s'->False) :
  codeAny (model P w) callerA (.call (.ref fa) ⟨[.ref a],[]⟩) (fun r s'=>r=.ok (.ret (.bool true))/\OldK bI.heap s'.heap/\s'.os=bI.os/\AllBare s'.gens) bI:=by
 have rv:=wM hi;have xW:=hi.length
 -- from an abstract heap in BK nothing but jT lj may be tracked
 have core:∀H:Hp,zc H->cN K H a (ns.map V.int)->gw P w H bI.heap->(∀b,H b≠none->b=a)->(H a≠none->K.lookup a=none)->
   codeAny (model P w) callerA (.call (.ref fa) ⟨[.ref a],[]⟩) (fun r s'=>r=.ok (.ret (.bool true))/\OldK bI.heap s'.heap/\s'.os=bI.os/\AllBare s'.gens) bI:=by
  intro H hO hS bX hA hK;have j7:∀{b:Addr} {o:Obj},bI.heap.get? b=some o->H b=none->(mJ bI.heap H).get? b=some o:=fun e n=>Hm e n
  have sm:∀{b:Addr} {o:Obj} {es:Array DictEntry} {ep:Nat},bI.heap.get? b=some o->o.data=.dict es ep->H b=none:=fun{b o es ep} e d=>by
   cases q:H b with
   | none=>rfl
   | some u=>
    have e':b=a:=hA b (by rw[q];simp);subst e';rw[ha] at e;cases e;have d':Data.seq vs.toArray _=Data.dict es ep:=d;cases d'
  have uQ:∀{b:Addr} {m:Str->Option Value},bI.heap.Ns b m->(mJ bI.heap H).Ns b m:=fun{b m} ⟨o,es,ep,e,d,r⟩=>⟨o,es,ep,j7 e (sm e d),d,r⟩
  have Cz:K.In (mJ bI.heap H):=fun b o e=>j7 (KX b o e) (by
   cases q:H b with
   | none=>rfl
   | some u=>
    have e':b=a:=hA b (by rw[q];simp);subst e'
    rw[hK (by rw[q];simp)] at e;cases e)
  have hM:Mod K mg (mJ bI.heap H):=⟨Cz,uQ j2,⟨mb,uQ hb,LB⟩,let⟨mc,h1,h2⟩:=yv;⟨mc,uQ h1,h2⟩⟩
  have e0:jK P w K mg (mJ bI.heap H) callerA [] bI H:=⟨rfl,hM,fun b o e=>Fj e,Nat.le_of_eq (Hw _ _),trivial,fun b hb=>absurd (show b∈([]:List Addr) from hb) (by simp),bX,.of_eq hg⟩
  refine codeAny_mono ((F _ Cz (uQ j2)).run callerA [] bI H ⟨[.ref a],[]⟩ [.ref a] [.ref a] _ _ hr e0 (tq bI (.ref a)) (.cons rfl .nil) (qf H hO hS)) fun r s' h=>?_
  cases r with
  | error e=>exact(LP H e s' h).elim
  | ok fl=>
   cases fl with
   | next=>exact False.elim h
   | brk=>exact False.elim h
   | cont=>exact False.elim h
   | ret u=>
    obtain⟨v,H',os,bare,un,yn,r',q⟩:=h;have q':v=.bl true:=q;subst q';obtain rfl:u=Value.bool true:=r';refine⟨rfl,OldK.of_keep fun b o e=>?_,os,bare⟩;cases q:H b with
    | none=>exact un.keep b o e q (by intro z;exact absurd (show b∈([]:List Addr) from z) (by simp)) (by simp)
    | some u=>
     rcases hO b with z | ⟨ob,xs,z⟩
     ·rw[q] at z;cases z
     ·have z2:=un.ip b ob _ z;obtain⟨e1,_⟩:=bX b _ z;obtain⟨e2,_⟩:=yn b _ z2;rw[e] at e1;cases e1;exact e2
 cases hk:K.lookup a with
 | some o=>
  -- jT lj is one of jT su own objects
  have e:=KX a o hk;rw[ha] at e;cases e;refine core (fun _=>none) (fun _=>.inl rfl) (.inr ⟨_,vs.toArray,_,hk,rfl,rfl,rfl,by rw[ah,xW];exact hl,by simpa using rv⟩) (fun b u z=>by have z':(none:Option HO)=some u:=z;cases z') (fun b z=>absurd rfl z) fun z=>absurd rfl z
 | none=>
  refine core (fun b=>if b=a then some (.hX { cls:=.type "list",data:=.seq vs.toArray } (.lst (ns.map V.int))) else none) (fun b=>?_) (.inl (.inr ⟨{ cls:=.type "list",data:=.seq vs.toArray },if_pos rfl⟩)) (fun b u z=>?_) (fun b z=>?_) fun _=>hk
  ·by_cases hb:b=a
   ·exact .inr ⟨_,_,if_pos hb⟩
   ·exact .inl (if_neg hb)
  ·by_cases hb:b=a
   ·have z':=(if_pos hb).symm.trans z;cases z';subst hb;exact⟨ha,by rw[af];exact hl,vs,_,rv,ha⟩
   ·have z':=(if_neg hb).symm.trans z;cases z'
  ·by_cases hb:b=a
   ·exact hb
   ·exact absurd (if_neg hb) z
end L2
namespace L2
open PySem PySem.Spec PyProof.Rows
noncomputable abbrev pA{K:PySem.W.Frag}{h:Heap}(_:K.In h):PySem.W.Frag:=K
end L2
namespace L2
open PySem PySem.Spec PyProof.Rows
def Fu(s:Stmt)(j:Nat):Stmt:=match s with
 | .ClassDef _ _ _ body _ _ _ _ _ _ _=>body.getD j (.Pass ⟨0,0,0,0⟩)
 | _=>.Pass ⟨0,0,0,0⟩
noncomputable def cD(s:Stmt):Arguments:=match s with
 | .FunctionDef _ a _ _ _ _ _ _ _ _=>a
 | _=>{ posonlyargs:=[],args:=[],vararg:=none,kwonlyargs:=[],kw_defaults:=[],kwarg:=none,defaults:=[] }
noncomputable def bN(s:Stmt):List Stmt:=match s with
 | .FunctionDef _ _ b _ _ _ _ _ _ _=>b
 | _=>[]
noncomputable def bf(s:Stmt):Scope:=match s with
 | .FunctionDef _ _ _ _ _ _ sc _ _ _=>sc
 | _=>{ kind:=.function,names:=[],isGenerator:=false,isCoroutine:=false }
abbrev iO:nC:=fun _ _ _ _ _ _=>False
abbrev E0:XK:=fun _ _ _=>False
theorem vF{X:Cx}:qN iO X E0:=fun _ _ _ _ _ _ _ h=>h.elim
structure iy (dV:Value) (K:PySem.W.Frag) (x qual:Str) (st:Stmt) (f:Addr) (fd:FuncData):Prop where
 ex:∃(oc:Value) (od:Option Addr) (kV doc pm:Value) (an:Option Addr) (bM ct:Value) (js:Array (Option Value)),
  fd=PySem.W.fnOf x qual (cD st) (bN st) (bf st) dV kV doc pm an bM ct/\K.lookup f=some ⟨oc,od,.func fd,js⟩/\PySem.W.codeIn K bM qual=true
 kp:PySem.W.keepIn K (.ref f)=true
noncomputable abbrev vn:=iy .none
section
variable {P:Program} {w:World} {K:PySem.W.Frag} {mg:Str->Option Value} {base:Heap}
theorem iy.ok{dV:Value}{x qual:Str}{st:Stmt}{f:Addr}{fd:FuncData}{N ps:List Str}{k:Nat}{sp:Sp}(F:iy dV K x qual st f fd)(S:br N ps (bf st))(len:∀vs H Q E,sp vs H Q E->vs.length=ps.length)
  (lL:∀(bM:Value) (A:Around) (outer:List Env) (s:Shared) (H:Hp) (vs:List V) (Q:VK) (E:XK),cm k (A.deeper (envOfC qual (bf st) s.heap.objs.size f bM))->sp vs H Q E->
   ∃t,j9 (kJ iO P w K mg base N qual (bf st) f bM A outer s H E).mn (bN st) t/\t { nx:=fun _ H'=>Q .non H',rt:=Q } (ic N vs) H):eT P w K mg base iO (k+1) f fd ps sp:=by
 obtain⟨oc,od,kV,doc,pm,an,bM,ct,js,rfl,lk,fL⟩:=F.ex;refine D8 lk fL S len fun A outer s H vs Q E hr qf=>?_
 obtain⟨t,h,q⟩:=lL bM A outer s H vs Q E hr qf;exact⟨t,h.mn,q⟩
theorem iy.binds{x qual:Str}{st:Stmt}{f:Addr}{fd:FuncData}{ps:List Str}(F:vn K x qual st f fd)
  (h:∀(kV doc pm:Value) (an:Option Addr) (bM ct:Value) (us:List Value),us.length=ps.length->bindArgs (PySem.W.fnOf x qual (cD st) (bN st) (bf st) .none kV doc pm an bM ct) ⟨us,[]⟩=pure (ps.zip us)):Binds K fd ps []:=by
 obtain⟨oc,od,kV,doc,pm,an,bM,ct,js,rfl,lk,fL⟩:=F.ex;exact .all (h kV doc pm an bM ct)
theorem vT{x qual:Str}{st:Stmt}{f:Addr}{oc:Value}{od an:Option Addr}{js:Array (Option Value)}{dV kV doc pm bM ct:Value}(l:K.lookup f=some ⟨oc,od,.func (PySem.W.fnOf x qual (cD st) (bN st) (bf st) dV kV doc pm an bM ct),js⟩)
  (c:PySem.W.codeIn K bM qual=true) (k:PySem.W.keepIn K (.ref f)=true):iy dV K x qual st f (PySem.W.fnOf x qual (cD st) (bN st) (bf st) dV kV doc pm an bM ct):=⟨⟨oc,od,kV,doc,pm,an,bM,ct,js,rfl,l,c⟩,k⟩
end
def bw(H H':Hp):Prop:=∀b o,H b=some o->H' b=some o
theorem bw.refl(H:Hp):bw H H:=fun _ _ h=>h
theorem bw.trans{H H1 H2:Hp}(a:bw H H1)(b:bw H1 H2):bw H H2:=fun c o h=>b c o (a c o h)
theorem bw.free{H H':Hp}(e:bw H H'){l:Addr}(h:H' l=Option.none):H l=Option.none:=by
 cases q:H l with
 | none=>rfl
 | some o=>
  rw[e l o q] at h;cases h
end L2
set_option maxHeartbeats 0
namespace L2
open PySem PySem.Spec PyProof.Rows
def gC(K:PySem.W.Frag)(H:Hp)(a:Addr)(xs:List V):Prop:=
 Rd H a (.lst xs)\/∃(its:Array Value) (n:Nat),K.lookup a=some { cls:=.type "list",data:=.seq its n }/\its.size<=sizeLine/\Vals xs its.toList
theorem gC.of{K:PySem.W.Frag}{H:Hp}{a:Addr}{xs:List V}(h:H a=some (.lst xs)):gC K H a xs:=.inl (.inl h)
theorem gC.sq{K:PySem.W.Frag}{H:Hp}{a:Addr}{xs:List V}(h:gC K H a xs):cN K H a xs:=by
 rcases h with h | ⟨its,n,h1,h2,h3⟩
 ·exact .inl h
 ·exact .inr ⟨_,its,n,h1,rfl,rfl,rfl,h2,h3⟩
theorem bw.c9{K:PySem.W.Frag}{H H':Hp}{a:Addr}{xs:List V}(e:bw H H')(h:gC K H a xs):gC K H' a xs:=by
 rcases h with(h | ⟨o,h⟩) | h
 ·exact .inl (.inl (e _ _ h))
 ·exact .inl (.inr ⟨o,e _ _ h⟩)
 ·exact .inr h
theorem Inv.c9{X:Cx}{pins:List (Addr×Obj)}{σ:St}{H:Hp}{s:Shared}{a:Addr}{xs:List V}(I:Inv X pins σ H s)(h:gC X.K H a xs):xs.length<=sizeLine/\∃(its:List Value) (n:Nat),Vals xs its/\s.heap.get? a=some { cls:=.type "list",data:=.seq its.toArray n }:=by
 rcases h with h | ⟨its,n,h1,h2,h3⟩
 ·obtain⟨z,its,n,r,e⟩:=h.ok I.bX;exact⟨z,its,n,r,e⟩
 ·refine⟨by rw[h3.length];simpa using h2,its.toList,n,h3,?_⟩;rw[Array.toArray_toList];exact I.iI a _ h1
noncomputable def iH(cells:List (Str×Addr)):List (Str×NameKind)->List (Str×Addr)->List (Str×Addr)
 | [],acc=>acc
 | (n,k)::r,acc=>iH cells r (if k==.free then(n,(cells.lookup n).getD 0)::acc else acc)
theorem Bs{env:Env}:∀(names:List (Str×NameKind)) (acc:List (Str×Addr)),(∀x∈names,x.2=.free->∃c,env.cells.lookup x.1=some c)->
  (forIn names acc fun(x:Str×NameKind) (r:List (Str×Addr))=>
   (if (x.2==NameKind.free)=true then do let a <-cellOf env x.1;pure (ForInStep.yield ((x.1,a)::r)) else pure (ForInStep.yield r):Sem (ForInStep (List (Str×Addr)))))=pure (iH env.cells names acc)
 | [],acc,_=>by simp[iH]
 | (n,k)::r,acc,h=>by
  have ih:=fun gb=>Bs (env:=env) r gb fun x hx=>h x (aM _ hx)
  rw[List.forIn_cons];by_cases hk:k=.free
  ·subst hk;obtain⟨c,hc⟩:=h (n,.free) (by simp) rfl;have e1:cellOf env n=pure c:=by unfold cellOf;rw[hc]
   simp only[beq_self_eq_true,aY,e1,pure_bind];rw[ih];simp[iH,hc]
  ·have i7:(k==NameKind.free)=false:=by simpa using hk
   simp only[i7,ay,aU,pure_bind];rw[ih];simp[iH,i7]
theorem Br{env:Env}{scope:Scope}(h:∀x∈scope.names,x.2=.free->∃c,env.cells.lookup x.1=some c):closureFor scope env=pure (iH env.cells scope.names []):=by
 have e:closureFor scope env=(forIn scope.names ([]:List (Str×Addr)) fun(x:Str×NameKind) (r:List (Str×Addr))=>
   (if (x.2==NameKind.free)=true then do let a <-cellOf env x.1;pure (ForInStep.yield ((x.1,a)::r)) else pure (ForInStep.yield r):Sem (ForInStep (List (Str×Addr))))) >>= fun r=>pure r:=rfl
 rw[e,Bs _ _ h];rfl
theorem AQ{cells:List (Str×Addr)}:∀{names:List (Str×NameKind)} {acc:List (Str×Addr)} {x:Str} {c:Addr},(x,c)∈iH cells names acc->(x,c)∈acc\/((x,.free)∈names/\c=(cells.lookup x).getD 0)
 | [],acc,x,c,h=>.inl h
 | (n,k)::r,acc,x,c,h=>by
  rcases AQ (names:=r) h with h | ⟨h,e⟩
  ·by_cases hk:k=.free
   ·subst hk;simp only[beq_self_eq_true,aY] at h;rcases ai.mp h with h | h
    ·cases h;exact .inr ⟨by simp,rfl⟩
    ·exact .inl h
   ·have i7:(k==NameKind.free)=false:=by simpa using hk
    simp only[i7,ay,aU] at h;exact .inl h
  ·exact .inr ⟨aM _ h,e⟩
theorem AO{cells:List (Str×Addr)}:∀{names:List (Str×NameKind)} {acc:List (Str×Addr)} {p:Str×Addr},p∈acc->p∈iH cells names acc
 | [],acc,p,h=>h
 | (n,k)::r,acc,p,h=>AO (names:=r) (by split<;>simp[h])
theorem wx{cells:List (Str×Addr)}:∀{names:List (Str×NameKind)} {acc:List (Str×Addr)} {x:Str},(x,.free)∈names->∃c,(x,c)∈iH cells names acc
 | (n,k)::r,acc,x,h=>by
  rcases ai.mp h with h | h
  ·have e1:x=n:=congrArg Prod.fst h;have e2:NameKind.free=k:=congrArg Prod.snd h;subst e1 e2;refine⟨(cells.lookup x).getD 0,?_⟩;show(x,(cells.lookup x).getD 0)∈iH cells r (if (NameKind.free==NameKind.free)=true then(x,(cells.lookup x).getD 0)::acc else acc);exact AO (by simp)
  ·exact wx (names:=r) h
theorem uG{α:Type}:∀{l:List (Str×α)} {x:Str} {c:α},(x,c)∈l->∃c',l.lookup x=some c'
 | (n,k)::r,x,c,h=>by
  by_cases e:x=n
  ·subst e;exact⟨k,by simp[List.lookup_cons]⟩
  ·have e':(x==n)=false:=by simpa using e
   rcases ai.mp h with h | h
   ·cases h;exact absurd rfl e
   ·obtain⟨c',q⟩:=uG h;exact⟨c',by simp[List.lookup_cons,e',q]⟩
theorem xA{env:Env}:∀{names:List (Str×NameKind)} {x:Str},
  (names.map fun(n,k)=>if (k==NameKind.free&&env.scope.kind==.function&&env.kindOf n==some .cell) then(n,NameKind.cell) else(n,k)).lookup x
   = (names.lookup x).map fun k=>if (k==NameKind.free&&env.scope.kind==.function&&env.kindOf x==some .cell) then NameKind.cell else k
 | [],x=>rfl
 | (n,k)::r,x=>by
  have ih:=@xA env r x;rw[av];have e0:(if (k==NameKind.free&&env.scope.kind==.function&&env.kindOf n==some .cell)=true then(n,NameKind.cell) else(n,k))=(n,if (k==NameKind.free&&env.scope.kind==.function&&env.kindOf n==some .cell)=true then NameKind.cell else k):=by split<;>rfl
  show List.lookup x ((if (k==NameKind.free&&env.scope.kind==.function&&env.kindOf n==some .cell)=true then(n,NameKind.cell) else(n,k))::_)=_;rw[e0];by_cases e:x=n
  ·subst e;rw[List.lookup_cons,List.lookup_cons,beq_self_eq_true];rfl
  ·have e':(x==n)=false:=by simpa using e
   rw[List.lookup_cons,List.lookup_cons,e'];exact ih
theorem xj:∀(names:List (Str×NameKind)) (n:Nat) (acc gb:List (Str×Addr)),cellsFrom n names (acc++gb)=cellsFrom n names acc++gb
 | [],_,_,_=>rfl
 | (x,k)::r,n,acc,gb=>by
  unfold cellsFrom;split
  ·exact xj r (n+1) ((x,n)::acc) gb
  ·exact xj r n acc gb
theorem xi:∀{names:List (Str×NameKind)} {n:Nat} {acc:List (Str×Addr)} {p:Str×Addr},p∈cellsFrom n names acc->p∈acc\/(p.1,.cell)∈names
 | [],_,_,_,h=>.inl h
 | (x,k)::r,n,acc,p,h=>by
  unfold cellsFrom at h;split at h
  ·rename_i hk;rcases xi h with h | h
   ·rcases ai.mp h with rfl | h
    ·rw[eq_of_beq hk];exact .inr (by simp)
    ·exact .inl h
   ·exact .inr (aM _ h)
  ·exact(xi h).imp id (aM _)
theorem rA:∀{names:List (Str×NameKind)} {n:Nat} {acc:List (Str×Addr)} {p:Str×Addr},p∈acc->p∈cellsFrom n names acc
 | [],_,_,_,h=>h
 | (x,k)::r,n,acc,p,h=>by
  unfold cellsFrom;split
  ·exact rA (aM _ h)
  ·exact rA h
theorem xh:∀{names:List (Str×NameKind)} {n:Nat} {acc:List (Str×Addr)} {x:Str},(x,.cell)∈names->∃c,(x,c)∈cellsFrom n names acc
 | (y,k)::r,n,acc,x,h=>by
  unfold cellsFrom;rcases ai.mp h with h | h
  ·cases h;exact⟨n,rA (by simp)⟩
  ·split
   ·exact xh h
   ·exact xh h
theorem F0{M:Model}{A:Around}{E:Value->Shared->Prop}{s:Shared}{scope:Scope}{globals:Addr}{closure:List (Str×Addr)}{qual:Str}{func:Option Addr}{code:Value}{out:Env}{Q:Env->Shared->Prop}
  (hQ:∀h',h'=pushCells (s.heap.push { cls:=.type "dict",data:=.dict #[] }) scope.names->Q (newEnv scope s.heap.objs.size globals (cellsFrom (s.heap.objs.size+1) scope.names closure) qual func code (some out) builtinsNs) { s with heap:=h' }) :
  wpAny M A (newFunctionEnv scope globals closure [] qual func code (some out)) Q E s:=by
 simp only[newFunctionEnv,Option.isSome_some,aY];refine aa (wpAny_alloc ?_);refine aa (wpAny_layCells _ (fun name kind cells=>by cases Lo:kind==NameKind.cell<;>simp[Lo]) _ _ _ _ ?_);rw[show({ s with heap:=s.heap.push { cls:=.type "dict",data:=.dict #[] } }:Shared).heap.objs.size=s.heap.objs.size+1 from Heap.size_push ..];rw[List.forIn_nil];exact aa (ab (ab (hQ _ rfl)))
noncomputable abbrev f9(X:Cx)(N':List Str)(scope:Scope)(s3:Shared)(H3:Hp)(ex:List Addr):Cx:=
 { X with N:=N',cT:=s3,lY:=H3,env:=compEnvC scope (cellsFrom (s3.heap.objs.size+1) scope.names (iH X.env.cells scope.names [])) s3.heap.objs.size X.env,outer:=X.stack,stack:=X.stack,ex:=ex,fn:=fun x=>scope.names.lookup x==some .cell,pn:=[],xe:=fun _ _=>False }
noncomputable def kQ(m:List (Option Nat))(σ:St):St:=m.map fun o=>match o with
 | none=>none
 | some j=>(σ[j]?).join
structure bU (X:Cx) (N':List Str) (m:List (Option Nat)) (scope:Scope):Prop where
 kind:scope.kind=.function
 len:m.length=N'.length
 uniq:∀y∈scope.names,scope.names.lookup y.1=some y.2
 free:∀y∈scope.names,y.2=.free->X.env.kindOf y.1=some .cell\/X.env.kindOf y.1=some .free
 L0:∀(i j:Nat) (x:Str),m[i]?=some (some j)->N'[i]?=some x->X.N[j]?=some x/\scope.names.lookup x=some .free
def qv(X:Cx)(ifs:List Expr)(t:TT):Prop:=
 ∀(pins:List (Addr×Obj)) (s:Shared) (σ:St) (H:Hp) (Q:Bool->Hp->Prop),Inv X pins σ H s->t σ H Q->
  wpAny (model X.prog X.w) X.A (forIn ifs true fun c r=>if r=true then do let ok <-isTrue c X.env (eval c X.env);pure (ForInStep.yield ok) else pure (ForInStep.yield r)) (TP X pins σ Q) X.xe s
def DC:TT:=fun _ H Q=>Q true H
theorem Ft{X:Cx}:qv X [] DC:=fun _ _ σ H _ I h=>wpAny_tests_nil ⟨H,I,h⟩
theorem Fs{X:Cx}{c:Expr}{t:TT}(h:PT X c t):qv X [c] t:=fun pins s σ H Q I q=>wpAny_tests_one (h pins s σ H Q I q)
section
variable {prog:Program} {w:World} {A:Around} {R:Result->Shared->Prop} {s:Shared}
theorem IE{elt target iter:Expr}{ifs:List Expr}{scope:Scope}{pos:Pos}{it acc:Value}{env:Env}(I:Nat->Shared->Prop)
  (turn:∀n s,I n s->wpAny (model prog w) A (pyNext it) (fun r bI=>match r with
   | none=>R (.ok .next) bI
   | some v=>wpAny (model prog w) A (letOwnedTupleGo target it v) (fun _ nV=>wpAny (model prog w) A (assign target env v) (fun _ gS=>
     wpAny (model prog w) A (forIn ifs true fun c r=>if r=true then do let ok <-isTrue c env (eval c env);pure (ForInStep.yield ok) else pure (ForInStep.yield r)) (fun ok lh=>
      if ok=true then wpAny (model prog w) A (eval elt env) (fun x mV=>
       wpAny (model prog w) A (call (.builtin "list.append") [acc,x]) (fun _ rY=>∃m,m<n/\I m rY) (fun _ _=>False) mV) (fun _ _=>False) lh
      else ∃m,m<n/\I m lh) (fun _ _=>False) gS) (fun _ _=>False) nV) (fun _ _=>False) bI) (fun _ _=>False) s)
  (n:Nat) (h:I n s) :
  codeAny (model prog w) A (.compLoop (.ListComp elt [⟨target,iter,ifs,0⟩] scope pos) 0 it acc env) R s:=by
 refine codeAny_loop rfl I (fun n s hI=>?_) n h;show wpAny _ A ((compTurn (.ListComp elt [⟨target,iter,ifs,0⟩] scope pos) 0 it acc env).onRaise (fun x=>do noteFrame x env;theTreesLotGoes x)) _ _ s;refine wpAny_noted ?_;rw[compTurn_list];have nv:∀{E:Value->Shared->Prop} (x:Value) (s:Shared),(fun(_:Value) (_:Shared)=>False) x s->E x s:=fun _ _ f=>f.elim
 refine aa (wpAny_standAt (aa (wpAny_mono (turn n s hI) (fun r bI gB=>?_) nv)));cases r with
 | none=>exact ab gB
 | some v=>
  refine aa (wpAny_mono gB (fun _ nV sE=>?_) nv);refine aa (wpAny_mono sE (fun _ gS x8=>aa (wpAny_mono x8 (fun ok lh sD=>?_) nv)) nv);cases ok with
  | false=>exact ab ⟨rfl,sD⟩
  | true=>
   exact aa (aa (wpAny_mono sD (fun x mV xZ=>aa (wpAny_mono xZ (fun _ rY xY=>ab (ab ⟨rfl,xY⟩)) nv)) nv))
end
end L2
namespace L2
open PySem PySem.Spec PyProof.Rows
noncomputable abbrev ny(α:Type):=Shared->Hp->List Addr->α
def tV(wi:TI)(m:List (Option Nat))(g:ny TG)(tc:ny TT)(te:ny TE):TE:=fun σ H Q=>wi σ H fun J H1=>∀D,H1 D=none->∀s3 ex,
 ∃W:Nat->Nat->St->Hp->Prop,(∃k,W 0 k (kQ m σ) (upd H1 D (.lst [])))/\∀i k bR H',W i k bR H'->
  (J.stop i H'/\Q (.ref D) H')\/(J.go i H'/\∃N:St->Hp->Prop,(∀bR H',N bR H'->∃k',k'<k/\W (i+1) k' bR H')/\
   ∀x H2,J.uH i H' x H2->g s3 (upd H1 D (.lst [])) ex x bR H2 fun jO H3=>tc s3 (upd H1 D (.lst [])) ex jO H3 fun b H4=>
    if b=true then te s3 (upd H1 D (.lst [])) ex jO H4 fun v H5=>∃xs,H5 D=some (.lst xs)/\xs.length<sizeLine/\N jO (upd H5 D (.lst (xs++[v]))) else N jO H4)
section
variable {X:Cx} {elt iter tg:Expr} {ifs:List Expr} {scope:Scope} {pos:Pos} {N':List Str} {m:List (Option Nat)} {wi:TI} {g:ny TG} {tc:ny TT} {te:ny TE}
theorem FZ{pins:List (Addr×Obj)}{σ:St}{H:Hp}{s:Shared}{fp:List Addr}{gB:Heap}{tk:Nat}(cs:bU X N' m scope)(I:Inv X pins σ H s)(f:∀b∈fp,gc X pins H b)(fo:∀b∈fp,b<s.heap.objs.size)
  (hh:gB=pushCells (s.heap.push { cls:=.type "dict",data:=.dict #[] }) scope.names) :
  Inv (f9 X N' scope s H fp) [] (kQ m σ) H { s with heap:=gB,toks:=tk }:=by
 have hk:∀b o,s.heap.get? b=some o->gB.get? b=some o:=fun b o e=>by rw[hh];exact pushCells_keeps _ _ b o (ae _ e)
 have j2:gB.Ns s.heap.objs.size (fun _=>none):=by rw[hh];exact(Heap.Ns.new s.heap (.type "dict")).keeps (pushCells_keeps _ _)
 have ok:=cellsFrom_ok scope.names (s.heap.push { cls:=.type "dict",data:=.dict #[] }) (s.heap.objs.size+1) [] ⟨fun _ _ hm=>(nomatch hm),List.Pairwise.nil⟩ (by rw[Heap.size_push];exact aq _);rw[Heap.size_push,<-hh] at ok;have cC:∀y∈scope.names,y.2=.free->∃c,X.env.cells.lookup y.1=some c:=fun y hy hf=>I.ok.has y.1 (cs.free y hy hf)
 have app:cellsFrom (s.heap.objs.size+1) scope.names (iH X.env.cells scope.names [])=cellsFrom (s.heap.objs.size+1) scope.names []++iH X.env.cells scope.names []:=xj _ _ [] _
 /- a cell: of its own,or one from around -/
 have pq:∀x c,(cellsFrom (s.heap.objs.size+1) scope.names (iH X.env.cells scope.names [])).lookup x=some c->((x,c)∈cellsFrom (s.heap.objs.size+1) scope.names []/\scope.names.lookup x=some .cell)\/(X.env.cells.lookup x=some c/\scope.names.lookup x=some .free):=fun x c e=>by
  have hm:=PySem.mem_of_lookup e;rw[app] at hm;rcases aA.mp hm with hm | hm
  ·refine .inl ⟨hm,?_⟩;rcases xi hm with z | z
   ·cases z
   ·exact cs.uniq _ z
  ·rcases AQ hm with z | ⟨z,e'⟩
   ·cases z
   ·obtain⟨c',q⟩:=cC _ z rfl;rw[q] at e';exact .inr ⟨by rw[q,e'];rfl,cs.uniq _ z⟩
 have old:∀x c,X.env.cells.lookup x=some c->c<s.heap.objs.size:=fun x c e=>by obtain⟨v,z⟩:=I.cell x c e;exact z.lt
 refine⟨⟨I.ok.mod,cs.kind,I.ok.glob,I.ok.blt,aq _,fun x y c e1 e2=>?inj,fun x hx=>?_,fun x c hx e=>?cab,I.ok.hd,I.ok.frames,.inl rfl,fun b hb=>⟨az (fo b hb),fun x c e=>?exf⟩,
  fun b o e=>I.bs b o e,aJ I.ok.om I.sz,fun b o e hb=>?_,fun b hb z=>?_,I.stack,I.jU⟩,
  rfl,I.bare,Un.kept hk,⟨_,j2,fun i x v h1 h2 h3=>?_⟩,fun x c e=>?_,I.bX.fresh (aq _),fun x c e=>?frc,fun p hp=>(by cases hp),I.bX.kept hk,?_⟩
 case inj=>
  rcases pq x c e1 with⟨m1,_⟩ | ⟨o1,_⟩<;>rcases pq y c e2 with⟨m2,_⟩ | ⟨o2,_⟩
  ·exact PySem.name_of_addr ok.apart m1 m2
  ·exact absurd (old y c o2) (Nat.not_lt.mpr (aJ (Nat.le_succ _) (ok.empty x c m1).2))
  ·exact absurd (old x c o1) (Nat.not_lt.mpr (aJ (Nat.le_succ _) (ok.empty y c m2).2))
  ·exact I.ok.inj x y c o1 o2
 case cab=>
  rcases pq x c e with⟨m1,_⟩ | ⟨_,z⟩
  ·exact aJ (Nat.le_succ _) (ok.empty x c m1).2
  ·have jX:(scope.names.lookup x==some .cell)=true:=hx;rw[z] at jX;cases jX
 case exf=>
  rcases pq x c e with⟨m1,_⟩ | ⟨o1,_⟩
  ·exact Nat.ne_of_gt (aE (Nat.lt_succ_of_lt (fo b hb)) (ok.empty x c m1).2)
  ·exact(f b hb).2.2.2.2.1 x c o1
 case frc=>
  rcases pq x c e with⟨m1,_⟩ | ⟨o1,_⟩
  ·exact I.bX.fresh (aJ (Nat.le_succ _) (ok.empty x c m1).2)
  ·exact I.eD x c o1
 ·have jX:(relabel scope X.env).names.lookup x=some .cell\/(relabel scope X.env).names.lookup x=some .free:=hx;have e:(relabel scope X.env).names.lookup x=(scope.names.lookup x).map fun k=>if (k==NameKind.free&&X.env.scope.kind==.function&&X.env.kindOf x==some .cell) then NameKind.cell else k:=xA
  rw[e] at jX;have hf:(x,NameKind.free)∈scope.names\/(x,NameKind.cell)∈scope.names:=by
   cases q:scope.names.lookup x with
   | none=>rw[q] at jX;simp at jX
   | some k=>
    rw[q] at jX;have hm:=PySem.mem_of_lookup q;by_cases sV:k=.free
    ·subst sV;exact .inl hm
    ·have i7:(k==NameKind.free)=false:=by simpa using sV
     simp only[i7,Option.map_some,Bool.false_and,ay,aU,aV] at jX;rcases jX with z | z
     ·subst z;exact .inr hm
     ·exact absurd z sV
  show ∃c,(cellsFrom (s.heap.objs.size+1) scope.names (iH X.env.cells scope.names [])).lookup x=some c
  rcases hf with hf | hf
  ·obtain⟨c,hc⟩:=wx (cells:=X.env.cells) (acc:=[]) hf;exact uG (rA hc)
  ·obtain⟨c,hc⟩:=xh (n:=s.heap.objs.size+1) (acc:=iH X.env.cells scope.names []) hf;exact uG hc
 ·rcases(f b hb).2.2.2.1 with z | z
  ·exact I.ok.lz b o e z
  ·exact absurd (aE (aj (I.ok.bs b o e).1) z) (Nat.lt_irrefl _)
 ·rcases ai.mp (I.jx b z) with q | q
  ·exact(f b hb).2.1 q
  ·exact(f b hb).2.2.1 q
 ·unfold kQ at h2;rw[aK] at h2;cases q:m[i]? with
  | none=>rw[q] at h2;cases h2
  | some o=>
   rw[q] at h2;cases o with
   | none=>cases h2
   | some j=>
    simp only[Option.map_some,aV] at h2;have LR:σ[j]?=some (some v):=by
     cases z:σ[j]? with
     | none=>rw[z] at h2;cases h2
     | some a=>rw[z] at h2;simp at h2;rw[h2]
    obtain⟨hN,kC⟩:=cs.L0 i j x q h1;have Ck:=PySem.mem_of_lookup kC;obtain⟨m0,B8,hl⟩:=I.loc;have j4:=cs.free _ Ck rfl;have yb:lT X.env.scope x:=j4.elim (fun z=>.inr (.inl z)) (fun z=>.inr (.inr z));obtain⟨u,ru,lu⟩:=hl j x v hN LR yb;refine⟨u,ru,.inr ⟨?_,?_⟩⟩
    ·show(relabel scope X.env).names.lookup x=some .cell\/(relabel scope X.env).names.lookup x=some .free;have e:(relabel scope X.env).names.lookup x=(scope.names.lookup x).map fun k=>if (k==NameKind.free&&X.env.scope.kind==.function&&X.env.kindOf x==some .cell) then NameKind.cell else k:=xA
     rw[e,kC];simp only[Option.map_some];split
     ·exact .inl rfl
     ·exact .inr rfl
    ·rcases lu with⟨k,_⟩ | ⟨_,c,e,z⟩
     ·rcases j4 with z | z<;>· rw[k] at z;cases z
     ·obtain⟨c',lK⟩:=uG (rA (names:=scope.names) (n:=s.heap.objs.size+1) (wx (cells:=X.env.cells) (acc:=[]) Ck).choose_spec);have:X.env.cells.lookup x=some c':=by
       rcases pq x c' lK with⟨_,z⟩ | ⟨z,_⟩
       ·rw[kC] at z;cases z
       ·exact z
      rw[e] at this;cases this;obtain⟨oc,qi,hd⟩:=z;exact⟨c,lK,oc,hk c oc qi,hd⟩
 ·rcases pq x c e with⟨m1,_⟩ | ⟨o1,_⟩
  ·exact⟨none,(ok.empty x c m1).1⟩
  ·obtain⟨v,oc,qi,hd⟩:=I.cell x c o1;exact⟨v,oc,hk c oc qi,hd⟩
 ·show(kQ m σ).length=N'.length;unfold kQ;rw[af,cs.len]
theorem A5{use:Option (Value->Sem Unit)}{Q':Value->Shared->Prop}{pins:List (Addr×Obj)}{s:Shared}{σ:St}{H:Hp}{Q:VK}
  (hc:X.calm=true) (cs:bU X N' m scope) (hi:PI X tg iter wi) (hg:∀s3 H3 ex,PG (f9 X N' scope s3 H3 ex) tg (g s3 H3 ex)) (ht:∀s3 H3 ex,qv (f9 X N' scope s3 H3 ex) ifs (tc s3 H3 ex))
  (he:∀s3 H3 ex,PE (f9 X N' scope s3 H3 ex) elt (te s3 H3 ex)) (I:Inv X pins σ H s) (h:tV wi m g tc te σ H Q)
  (fin:∀D C s' H',Inv X pins σ H' s'->gc X pins H' C->(∃m,s'.heap.Ns C m)->Q (.ref D) H'->compPost (model X.prog X.w) X.A X.xe use Q' (.ref D) C (.ok .next) s') :
  wpAny (model X.prog X.w) X.A (eval iter X.env) (fun x bI=>wpAny (model X.prog X.w) X.A (pyIter x) (fun it gS=>wpAny (model X.prog X.w) X.A (newList []) (fun acc lh=>
   wpAny (model X.prog X.w) X.A (newFunctionEnv scope X.env.globals (iH X.env.cells scope.names []) [] X.env.qual none .none (some X.env)) (fun tE mV=>
    codeAny (model X.prog X.w) X.A (.compStart (.ListComp elt [⟨tg,iter,ifs,0⟩] scope pos) 0 it acc { tE with scope:=relabel scope X.env }) (compPost (model X.prog X.w) X.A X.xe use Q' acc tE.locals) mV) X.xe lh) X.xe gS) X.xe bI) X.xe s:=by
 refine cf (hi pins s σ H _ I h) fun v s1 h1=>cf h1 fun xX s2 h2=>?_
 obtain⟨it,fp,tn,J,H2,e,I2,T,nW,f2,h⟩:=h2;subst e;refine wpAny_newObj_type (F0 fun gB oh=>?_);have hf:H2 s2.heap.objs.size=none:=I2.bX.fresh (aq _);obtain⟨W,⟨k0,w0⟩,turn⟩:=h s2.heap.objs.size hf { s2 with heap:=s2.heap.push { cls:=.type "list",data:=.seq ([]:List Value).toArray } } fp;have I3:Inv X pins σ (upd H2 s2.heap.objs.size (.lst [])) { s2 with heap:=s2.heap.push { cls:=.type "list",data:=.seq ([]:List Value).toArray } }:=I2.sA (its:=[]) (t':=s2.toks) .nil (by simp);have CD:∀b∈fp,b<s2.heap.objs.size:=fun b hb=>by
  obtain⟨o,e,_⟩:=T.obj _ _ nW b hb;exact aj e
 have f3:∀b∈fp,gc X pins (upd H2 s2.heap.objs.size (.lst [])) b:=fun b hb=>⟨by rw[cA (az (CD b hb))];exact(f2 b hb).1,(f2 b hb).2⟩
 generalize B4:({ s2 with heap:=s2.heap.push { cls:=.type "list",data:=.seq ([]:List Value).toArray } }:Shared)=s3 at *;have hC:s3.heap.objs.size=s2.heap.objs.size+1:=by rw[<-B4];exact Heap.size_push ..
 have CF:∀b∈fp,b<s3.heap.objs.size:=fun b hb=>by rw[hC];exact Nat.lt_succ_of_lt (CD b hb)
 have k3:∀b o,s2.heap.get? b=some o->s3.heap.get? b=some o:=fun b o e=>by rw[<-B4];exact ae _ e
 have k1:∀b o,s3.heap.get? b=some o->gB.get? b=some o:=fun b o e=>by rw[oh];exact pushCells_keeps _ _ b o (ae _ e)
 have J0:=FZ (tk:=s3.toks) cs I3 f3 CF oh;have uO:tn 0 gB:=T.keep _ _ _ nW fun b _ o e=>k1 b o (k3 b o e)
 have yT:∀{H':Hp},(∀b∈fp,H' b=none)->∀b∈fp,gc (f9 X N' scope s3 (upd H2 s2.heap.objs.size (.lst [])) fp) [] H' b:=fun hn b hb=>
  ⟨hn b hb,az (CF b hb),J0.ok.lP b hb,.inl hb,(J0.ok.exf b hb).2,fun p hp=>by cases hp⟩
 have kC:∀b∈fp,(upd H2 s2.heap.objs.size (.lst [])) b=none:=fun b hb=>(f3 b hb).1
 have loop:codeAny (model X.prog X.w) X.A (.compLoop (.ListComp elt [⟨tg,iter,ifs,0⟩] scope pos) 0 (.ref it) (.ref s2.heap.objs.size) (compEnvC scope (cellsFrom (s3.heap.objs.size+1) scope.names (iH X.env.cells scope.names [])) s3.heap.objs.size X.env))
   (compPost (model X.prog X.w) X.A X.xe use Q' (.ref s2.heap.objs.size) s3.heap.objs.size) { s3 with heap:=gB }:=by
  refine IE (fun n s'=>∃i bR H',Inv (f9 X N' scope s3 (upd H2 s2.heap.objs.size (.lst [])) fp) [] bR H' s'/\tn i s'.heap/\(∀b∈fp,H' b=none)/\W i n bR H') ?_ k0 ⟨0,_,_,J0,uO,kC,w0⟩;rintro n s4 ⟨i,nE,H4,I4,BM,CA,w4⟩;rcases turn i n nE H4 w4 with⟨stop,qn⟩ | ⟨go,N,hN,step⟩
  ·refine cf (T.done (f9 X N' scope s3 (upd H2 s2.heap.objs.size (.lst [])) fp) rfl rfl rfl hc i [] s4 nE H4 _ I4 (yT CA) BM stop) fun r s5 bG=>?_
   obtain⟨hr,I5⟩:=bG;subst hr;have kT:∀b∈fp,(b∈X.ex\/X.cT.heap.objs.size<=b)/\b≠X.env.locals/\(∀x c,X.env.cells.lookup x=some c->c≠b)/\∀p∈X.pn++pins,p.1≠b:=fun b hb=>⟨(f2 b hb).2.2.2.1,(f2 b hb).2.1,(f2 b hb).2.2.2.2.1,(f2 b hb).2.2.2.2.2⟩
   have I6:Inv X pins σ H4 s5:=I3.tF (ch:=fp) I5.os I5.base I5.bX I5.bare kT;obtain⟨m5,Lh,_⟩:=id I5.loc;exact fin _ _ s5 H4 I6 (I3.i9 (aq _) I5.free) ⟨m5,Lh⟩ qn
  ·refine cf (T.item (f9 X N' scope s3 (upd H2 s2.heap.objs.size (.lst [])) fp) rfl rfl rfl hc i [] s4 nE H4 _ I4 (yT CA) BM go) fun r s5 bG=>?_
   obtain⟨u,hr,h5⟩:=bG;subst hr;refine cf h5 fun _ s6 bG=>?_
   obtain⟨x,H6,I6,r6,y6,xI,LV⟩:=bG;have L8:=I6.pinned (yT LV) (T.obj _ _ xI);refine cf (hg _ _ _ _ s6 nE H6 x u _ L8 r6 (step x H6 y6)) fun _ s7 bG=>?_
   obtain⟨jl,H7,I7,q7⟩:=bG;refine cf (ht _ _ _ _ s7 jl H7 _ I7 q7) fun b s8 bG=>?_
   obtain⟨H8,I8,q8⟩:=bG;have again:∀{s9:Shared} {qz:St} {H9:Hp},Inv (f9 X N' scope s3 (upd H2 s2.heap.objs.size (.lst [])) fp) ([]++qP fp s6.heap) qz H9 s9->N qz H9->∃m,m<n/\∃i bR H',Inv (f9 X N' scope s3 (upd H2 s2.heap.objs.size (.lst [])) fp) [] bR H' s9/\tn i s9.heap/\(∀b∈fp,H' b=none)/\W i m bR H':=fun{s9 qz H9} I9 n9=>by
    obtain⟨m',hm,w9⟩:=hN qz H9 n9;refine⟨m',hm,i+1,qz,H9,I9.eA,T.keep _ _ _ xI fun b hb o e=>(I9.pin (b,o) (aI _ (aI _ (rC hb e)))).1,fun b hb=>?_,w9⟩;obtain⟨o,e,d⟩:=T.obj _ _ xI b hb;exact(I9.pin (b,o) (aI _ (aI _ (rC hb e)))).2.1
   cases b with
   | false=>exact again I8 q8
   | true=>
    rw[if_pos rfl];refine cf (he _ _ _ _ s8 jl H8 _ I8 q8) fun y s9 bG=>?_
    obtain⟨v9,H9,I9,r9,xs,hD,hz,q9⟩:=bG;refine cf (A6 _ s9 jl H9 (.ref s2.heap.objs.size) [v9] (.ref s2.heap.objs.size) [y] (fun _ H'=>N jl H') I9 rfl (.cons r9 .nil) ⟨_,xs,v9,rfl,rfl,hD,hz,q9⟩) fun _ Mm bG=>?_
    obtain⟨_,MI,Ma,_,KA⟩:=bG;exact again Ma KA
 exact codeAny_compStart_list loop (T.self _ 0 _ _ _ uO loop)
theorem Fq(hc:X.calm=true)(cs:bU X N' m scope)(hi:PI X tg iter wi)(hg:∀s3 H3 ex,PG (f9 X N' scope s3 H3 ex) tg (g s3 H3 ex))(ht:∀s3 H3 ex,qv (f9 X N' scope s3 H3 ex) ifs (tc s3 H3 ex))
  (he:∀s3 H3 ex,PE (f9 X N' scope s3 H3 ex) elt (te s3 H3 ex)) (hs:∀x,foldedSetIterable iter X.env x=pure x:=by intro _;rfl):PE X (.ListComp elt [⟨tg,iter,ifs,0⟩] scope pos) (tV wi m g tc te):=by
 intro pins s σ H Q I h;rw[eval_ListComp];have cC:∀y∈scope.names,y.2=.free->∃c,X.env.cells.lookup y.1=some c:=fun y hy hf=>I.ok.has y.1 (cs.free y hy hf)
 refine wpAny_comprehension_free (use:=none) rfl hs (Br cC) cs.kind (fun y hy hl=>by rw[cs.uniq y hy,hl]) (A5 hc cs hi hg ht he I h fun D C s' H' I' fC ⟨mC,hn⟩ q=>?_);refine⟨mC,hn,fun h' sb=>⟨.ref D,H',I'.turned (t':=s'.toks) (fun b o hb e=>(sb.2 b hb).trans e) fC.1 fC.2.1 fC.2.2.2.1 fC.2.2.2.2.1 fC.2.2.2.2.2,rfl,q⟩⟩
theorem Aq{i:Nat}{x:Str}{pos' i3:Pos}(hN:X.N.Nodup)(sY:X.N[i]?=some x)(hx:Loc X.env.scope x)
  (hc:X.calm=true) (cs:bU X N' m scope) (hi:PI X tg iter wi) (hg:∀s3 H3 ex,PG (f9 X N' scope s3 H3 ex) tg (g s3 H3 ex)) (ht:∀s3 H3 ex,qv (f9 X N' scope s3 H3 ex) ifs (tc s3 H3 ex))
  (he:∀s3 H3 ex,PE (f9 X N' scope s3 H3 ex) elt (te s3 H3 ex)) (hs:∀x,foldedSetIterable iter X.env x=pure x:=by intro _;rfl)
  (sL:swapsWith (.ListComp elt [⟨tg,iter,ifs,0⟩] scope pos) (some (.Name x pos')) i3.line X.env=pure true:=by rfl)
  (hf:X.fn x=true\/X.env.scope.names.lookup x=some .local:=by first | exact .inl rfl | exact .inr rfl | assumption) :
  PS X (.Assign [.Name x pos'] (.ListComp elt [⟨tg,iter,ifs,0⟩] scope pos) i3) (vx (tV wi m g tc te) (vC i)):=by
 intro pins s σ H D I h;have cC:∀y∈scope.names,y.2=.free->∃c,X.env.cells.lookup y.1=some c:=fun y hy hf=>I.ok.has y.1 (cs.free y hy hf)
 rw[exec_Assign_Name_used _ _ _ _ sL];refine aa (wpAny_standAt (aa ?_));show wpAny _ _ (do let _ <-comprehension (.ListComp elt [⟨tg,iter,ifs,0⟩] scope pos) scope X.env _ (newList []) false (eval iter X.env) (some (assign (.Name x pos') X.env))) _ _ s;refine aa (wpAny_mono (wpAny_comprehension_free (use:=some (assign (.Name x pos') X.env)) (Q:=fun _ s'=>SP X pins D .next s') rfl hs (Br cC) cs.kind (fun y hy hl=>by rw[cs.uniq y hy,hl]) (A5 hc cs hi hg ht he I h fun A C s' H' I' fC ⟨mC,hn⟩ q=>?_)) (fun _ s' hq=>ab (ab hq)) fun _ _ e=>e);show wpAny _ _ (assign (.Name x pos') X.env (.ref A)) _ _ _;refine wpAny_assign_Name (Bb I' hN sY hx (show RelV (.ref A) (.ref A) from rfl) (fun s2 I2 Lc=>?_) hf);obtain⟨a,Kn,ha⟩:=Lc;have LO:C≠a:=by
  rcases ha with rfl | ha
  ·exact fC.2.1
  ·exact fun z=>fC.2.2.2.2.1 x a ha z.symm
 refine⟨mC,hn.sameBut Kn LO,fun h' sb=>⟨_,H',I2.turned (t':=s2.toks) (fun b o hb e=>(sb.2 b hb).trans e) fC.1 fC.2.1 fC.2.2.2.1 fC.2.2.2.2.1 fC.2.2.2.2.2,q⟩⟩
end
end L2
namespace L2
open PySem PySem.Spec PyProof.Rows
theorem zQ:2<=sizeLine:=by decide
theorem Inv.gn{X:Cx}{pins:List (Addr×Obj)}{σ:St}{H:Hp}{s:Shared}{h':Heap}{t':Nat}{fp:List Addr}(I:Inv X pins σ H s)(k:∀b o,b∉fp->s.heap.get? b=some o->h'.get? b=some o)(f:∀b∈fp,gc X pins H b) :
  Inv X pins σ H { s with heap:=h',toks:=t' }:=by
 have nY:∀b u,H b=some u->b∉fp:=fun b u e z=>by rw[(f b z).1] at e;cases e
 refine I.step (g':=s.gens) (d':=s.drawn) (ch:=fp) (fun b hb=>⟨(f b hb).2.2.2.1,(f b hb).2.1,(f b hb).2.2.2.2.1,(f b hb).2.2.2.2.2⟩) (fun b o _ _ hc e _=>k b o hc e) (fun b o _ _ hc e _=>⟨o.slots,k b o hc e⟩) (fun _ _ _ _ n=>n)
  (fun b o hc e=>⟨o,k b o hc e⟩) (fun _ _ e=>e) (fun _ _ _ e=>e) (fun b ps e=>⟨#[],by rw[e];simp⟩) (fun m hm=>?_) (fun b u e=>?_) I.bare
 ·obtain⟨o,es,ep,ho,r⟩:=hm;exact⟨o,es,ep,k _ o (fun z=>(f _ z).2.1 rfl) ho,r⟩
 ·refine(I.bX b u e).jy (fun c v hc q=>k c v ?_ q) (fun _ q=>q) fun _ _ q=>q
  rcases hc with z | z
  ·rw[z];exact nY b u e
  ·exact nY c _ z
theorem Inv.hU{X:Cx}{pins:List (Addr×Obj)}{σ:St}{H:Hp}{s:Shared}{h':Heap}{t':Nat}{fp:List Addr}{a:Addr}{o:HO}(I:Inv X pins σ H s)(k:∀b o,b∉fp->s.heap.get? b=some o->h'.get? b=some o)(f:∀b∈fp,gc X pins H b)
  (hp:s.heap.objs.size<=a) (new:cJ X.prog X.w (upd H a o) h' a o):Inv X pins σ (upd H a o) { s with heap:=h',toks:=t' }:=by
 have cC:H a=none:=I.bX.fresh hp;have nY:∀b u,H b=some u->b∉fp:=fun b u e z=>by rw[(f b z).1] at e;cases e
 refine I.step (g':=s.gens) (d':=s.drawn) (ch:=fp) (fun b hb=>⟨(f b hb).2.2.2.1,(f b hb).2.1,(f b hb).2.2.2.2.1,(f b hb).2.2.2.2.2⟩) (fun b o _ _ hc e _=>k b o hc e) (fun b o _ _ hc e _=>⟨o.slots,k b o hc e⟩)
  (fun b o _ q n=>by rw[cA (az (aE (aj q) hp))];exact n)
  (fun b o hc e=>⟨o,k b o hc e⟩) (fun b zs q=>by rw[cA (gO q cC)];exact q) (fun b ob zs q=>by rw[cA (gO q cC)];exact q) (fun b ps q=>⟨#[],by rw[cA (gO q cC),q];simp⟩) (fun m hm=>?_) (fun b u q=>?_) I.bare
 ·obtain⟨o,es,ep,ho,r⟩:=hm;exact⟨o,es,ep,k _ o (fun z=>(f _ z).2.1 rfl) ho,r⟩
 ·by_cases hb:b=a
  ·subst hb;rw[fq] at q;cases q;exact new
  ·rw[cA hb] at q;refine(I.bX b u q).jy (fun c v hc z=>k c v ?_ z) (fun c z=>by rw[cA (gO z cC)];exact z) fun c zs z=>by rw[cA (gO z cC)];exact z
   rcases hc with rfl | hc
   ·exact nY _ _ q
   ·exact nY _ _ hc
noncomputable def vk(x:Str):It:=⟨fun i _=>i<x.cps.size,fun i H v H'=>H'=H/\∃c,x.cps[i]?=some c/\v=.str ⟨#[c]⟩,fun i _=>i=x.cps.size⟩
theorem FY{P:Program}{w:World}{K:PySem.W.Frag}{tg:Expr}{x:Str}{it:Addr}{n:String}{t:Tok}(hn:["enumerate","zip","dict_itemiterator","dict_reverseitemiterator","odict_iterator","itertools.zip_longest","itertools.pairwise"].contains n=false)
  (W:∀A':Around,A'.handled=none->Walks P w A' it [it] [it] x.cps.size (SignAt x) (fun i h=>h.IsStrIter it n x t i))
  (hs:∀(A:Around) (i:Nat) (s:Shared) (Q:Value->Shared->Prop) (E:Value->Shared->Prop),s.heap.IsStrIter it n x t i->Q (.ref it) s->wpAny (model P w) A (pyIter (.ref it)) Q E s):Turn P w K tg (vk x) [it] it (fun i h=>h.IsStrIter it n x t i) where
 mem:=by simp
 obj:=fun i h st b hb=>by
  have e:b=it:=by simpa using hb
  subst e;obtain⟨o,e,c,d⟩:=st;exact⟨o,e,fun v z=>by rw[d] at z;cases z⟩
 keep:=fun i h h' st k=>by
  obtain⟨o,e,r⟩:=st;exact⟨o,k it (by simp) o e,r⟩
 item:=by
  intro X hP hw hK hc i pins s σ H E I hf st hg;subst hP hw hK;refine(W X.A (I.ok.hd hc)).item i s _ _ hg st fun v h' tk hv iW kk=>?_
  obtain⟨c,u,hx,rfl⟩:=hv;have I1:Inv X pins σ H { s with heap:=h',toks:=tk }:=I.gn kk hf;obtain⟨o,e,c',d⟩:=id iW;exact⟨_,rfl,tY (s:={ s with heap:=h',toks:=tk }) e c' d hn ⟨.str ⟨#[c]⟩,H,I1,⟨u,rfl⟩,⟨rfl,c,hx,rfl⟩,iW,fun b hb=>(hf b hb).1⟩⟩
 done:=by
  intro X hP hw hK hc i pins s σ H E I hf st hg;subst hP hw hK;have e:i=x.cps.size:=hg;subst e;exact(W X.A (I.ok.hd hc)).done s _ _ st fun h' tk kk=>⟨rfl,I.gn kk hf⟩
 self:=hs
section
variable {X:Cx} {tg:Expr}
theorem E7{pins:List (Addr×Obj)}{σ:St}{H:Hp}{s:Shared}{R:It->Hp->Prop}{E:Value->Shared->Prop}{x:Str}{t:Tok}(I:Inv X pins σ H s)(q:R (vk x) H) :
  wpAny (model X.prog X.w) X.A (pyIter (.str x t)) (vi X pins σ tg R) E s:=by
 have fin:∀(o:Obj) (n:String),(hn:["enumerate","zip","dict_itemiterator","dict_reverseitemiterator","odict_iterator","itertools.zip_longest","itertools.pairwise"].contains n=false)->
   (W:∀A':Around,A'.handled=none->Walks X.prog X.w A' s.heap.objs.size [s.heap.objs.size] [s.heap.objs.size] x.cps.size (SignAt x) (fun i h=>h.IsStrIter s.heap.objs.size n x t i))->
   (hs:∀(A:Around) (i:Nat) (s':Shared) (Q:Value->Shared->Prop) (E:Value->Shared->Prop),s'.heap.IsStrIter s.heap.objs.size n x t i->Q (.ref s.heap.objs.size) s'->wpAny (model X.prog X.w) A (pyIter (.ref s.heap.objs.size)) Q E s')->
   (s.heap.push o).IsStrIter s.heap.objs.size n x t 0->vi X pins σ tg R (.ref s.heap.objs.size) { s with heap:=s.heap.push o }:=fun o n hn W hs st=>by
  refine⟨s.heap.objs.size,[s.heap.objs.size],_,_,H,rfl,I.kept (t':=s.toks) fun b o e=>ae _ e,FY hn W hs,st,fun b hb=>?_,q⟩;have e:b=s.heap.objs.size:=by simpa using hb
  subst e;exact I.i9 (aq _) (I.bX.fresh (aq _))
 cases ha:x.cps.all (·<128)
 ·exact wpAny_pyIter_wide ha (fin _ _ (by decide) (fun A' hA=>Walks.strWide hA _ x t) (fun _ _ _ _ _ st q=>wpAny_pyIter_striter_wide st q) ⟨_,ao _ rfl,rfl,rfl⟩)
 ·exact wpAny_pyIter_ascii ha (fin _ _ (by decide) (fun A' hA=>Walks.strAscii hA _ x t) (fun _ _ _ _ _ st q=>wpAny_pyIter_striter_ascii st q) ⟨_,ao _ rfl,rfl,rfl⟩)
def DB(K:PySem.W.Frag)(tl:TE):TI:=fun σ H R=>tl σ H fun x H1=>(∃a,x=.ref a/\(∃xs,cN K H1 a xs)/\R (y9 K a) H1)\/(∃a,x=.ref a/\(∃xs,da K H1 a xs)/\R (y8 K a) H1)\/(∃z,x=.str z/\R (vk z) H1)
theorem E5{l:Expr}{tl:TE}(hl:PE X l tl):PI X tg l (DB X.K tl):=by
 intro pins s σ H R I h;refine cf (hl pins s σ H _ I h) fun v s1 bG=>?_
 obtain⟨x,H1,I1,r1,q1⟩:=bG;rcases q1 with⟨a,e,⟨xs,hq⟩,q⟩ | ⟨a,e,⟨xs,hq⟩,q⟩ | ⟨z,e,q⟩
 ·subst e;cases r1;obtain⟨its,rv,p,hz⟩:=I1.list hq;refine wpAny_pyIter_list p.isList ?_;refine⟨s1.heap.objs.size,[s1.heap.objs.size],_,_,H1,rfl,I1.kept (t':=s1.toks) fun b o e=>ae _ e,Hv a _,⟨_,ao _ rfl,rfl,rfl⟩,fun b hb=>?_,q⟩;have e:b=s1.heap.objs.size:=by simpa using hb
  subst e;exact I1.i9 (aq _) (I1.bX.fresh (aq _))
 ·subst e;cases r1;obtain⟨its,rv,p,hz⟩:=I1.tuple hq;refine wpAny_pyIter_tuple (show s1.heap.IsTuple a its.toArray from p) ?_;refine⟨s1.heap.objs.size,[s1.heap.objs.size],_,_,H1,rfl,I1.kept (t':=s1.toks) fun b o e=>ae _ e,Ij a _,⟨_,ao _ rfl,rfl,rfl⟩,fun b hb=>?_,q⟩;have e:b=s1.heap.objs.size:=by simpa using hb
  subst e;exact I1.i9 (aq _) (I1.bX.fresh (aq _))
 ·subst e;obtain⟨t,rfl⟩:=r1;exact E7 I1 q
end
noncomputable def za(K:PySem.W.Frag)(a:Addr):It:=
 ⟨fun i H=>∃xs x,cN K H a xs/\xs[i]?=some x,fun i H v H'=>∃t,v=.ref t/\H t=none/\∀xs,cN K H a xs->∃x,xs[i]?=some x/\H'=upd H t (.tup [.int i,x]),fun i H=>∃xs,cN K H a xs/\xs.length<=i⟩
noncomputable def y7(K:PySem.W.Frag)(a b:Addr):It:=
 ⟨fun i H=>∃xs ys x y,cN K H a xs/\cN K H b ys/\xs[i]?=some x/\ys[i]?=some y,fun i H v H'=>∃t,v=.ref t/\H t=none/\∀xs ys,cN K H a xs->cN K H b ys->∃x y,xs[i]?=some x/\ys[i]?=some y/\H'=upd H t (.tup [x,y]),
  fun i H=>∃xs ys,cN K H a xs/\cN K H b ys/\(xs.length<=i\/ys.length<=i)⟩
theorem zP{H:Hp}{t:Addr}{o:HO}{fp:List Addr}(h:∀b∈fp,H b=none)(ht:∀b∈fp,b≠t):∀b∈fp,upd H t o b=none:=fun b hb=>by rw[cA (ht b hb)];exact h b hb
theorem HZ{prog:Program}{w:World}{A:Around}{E:Value->Shared->Prop}{s:Shared}{elts:List Expr}{x1}{pos:Pos}{e it T:Addr}{i:Int}{old:Value}{Q:Unit->Shared->Prop}(he:IsEnumOut s.heap e it i old T)
  (hQ:∀h',IsEnum h' e it i old->Heap.SameBut e s.heap h'->Q () { s with heap:=h' }) :
  wpAny (model prog w) A (letOwnedTupleGo (.Tuple elts x1 pos) (.ref e) (.ref T)) Q E s:=by
 unfold letOwnedTupleGo;refine aa (wpAny_load he ?_);show wpAny _ _ (if (["enumerate","zip","dict_itemiterator","dict_reverseitemiterator","odict_iterator","itertools.zip_longest","itertools.pairwise"].contains "enumerate" &&
   (#[rawInt T,.bool false,.ref it,rawInt i,.none,old]:Array Value)[0]?==some (rawInt T))=true then _ else _) Q E s
 rw[if_pos (by simp)];refine aa (wpAny_rule ?_);show wpAny _ _ (setField (.ref e) 0 .none) Q E s;exact wpAny_setField_rec he (by simp) fun h' K2 qg=>hQ h' K2 qg
theorem HM{P:Program}{w:World}{K:PySem.W.Frag}{elts:List Expr}{x1}{pos:Pos}(a e it:Addr)(cH:e≠it):Turn P w K (.Tuple elts x1 pos) (za K a) [e,it] e (fun i h=>(∃old,IsEnum h e it i old)/\h.IsListIter it a i) where
 mem:=by simp
 obj:=fun i h st b hb=>by
  obtain⟨⟨old,h1⟩,o,h2,c,d⟩:=st;rcases ai.mp hb with rfl | hb
  ·exact⟨_,h1,fun v z=>by have z':Data.fields _=Data.cell v:=z;cases z'⟩
  ·have e:b=it:=by simpa using hb
   subst e;exact⟨o,h2,fun v z=>by rw[d] at z;cases z⟩
 keep:=fun i h h' st k=>by
  obtain⟨⟨old,h1⟩,h2⟩:=st;exact⟨⟨old,k e (by simp) _ h1⟩,h2.at fun o q=>k it (by simp) o q⟩
 item:=by
  intro X hP hw hK hc i pins s σ H E I hf st hg;subst hP hw hK;obtain⟨xs,x,hq,hx⟩:=hg;obtain⟨its,rv,p,hz⟩:=I.list hq;obtain⟨u,hu,ru⟩:=rv.get hx;obtain⟨⟨old,h1⟩,h2⟩:=st;refine wpAny_pyNext_enum_item h1 h2 p.isList (x:=u) (by simpa using hu) cH fun h' e1 e2 e3 e4 kk=>?_
  refine⟨_,rfl,HZ e1 fun pd e5 sb=>?_⟩;have B2:s.heap.objs.size≠e:=Nat.ne_of_gt (aj h1);have La:s.heap.objs.size≠it:=by obtain⟨o,q,_⟩:=h2;exact Nat.ne_of_gt (aj q)
  have hT:pd.get? s.heap.objs.size=some { cls:=.type "tuple",data:=.seq #[.int i s.toks,u] }:=sb.extBut _ _ B2 e3;have cC:H s.heap.objs.size=none:=I.bX.fresh (aq _);have new:cJ X.prog X.w (upd H s.heap.objs.size (.tup [.int i,x])) pd s.heap.objs.size (.tup [.int i,x]):=⟨zQ,[.int i s.toks,u],.cons ⟨_,rfl⟩ (.cons ru .nil),⟨_,hT,rfl,_,rfl⟩⟩
  refine⟨.ref s.heap.objs.size,upd H s.heap.objs.size (.tup [.int i,x]),I.hU (fp:=[e,it]) (fun b o hb q=>sb.extBut b o (fun z=>hb (by simp[z])) (kk b o (fun z=>hb (by simp[z])) (fun z=>hb (by simp[z])) q)) hf (aq _) new,rfl,
   ⟨_,rfl,cC,fun ys hy=>⟨x,by rw[I.eC hy hq];exact hx,rfl⟩⟩,⟨⟨u,e5⟩,e2.extBut sb.extBut (Ne.symm cH)⟩,zP (fun b hb=>(hf b hb).1) fun b hb=>?_⟩
  rcases ai.mp hb with rfl | hb
  ·exact B2.symm
  ·have z:b=it:=by simpa using hb
   rw[z];exact La.symm
 done:=by
  intro X hP hw hK hc i pins s σ H E I hf st hg;subst hP hw hK;obtain⟨xs,hq,hx⟩:=hg;obtain⟨its,rv,p,hz⟩:=I.list hq;obtain⟨⟨old,h1⟩,h2⟩:=st;have hl:=rv.length;exact wpAny_pyNext_enum_end (I.ok.hd hc) h1 h2 p.isList (by simp;omega) fun h' eb=>⟨rfl,I.gn (fp:=[e,it]) (t':=s.toks) (fun b o hb q=>eb b o (fun z=>hb (by simp[z])) q) hf⟩
 self:=fun _ _ _ _ _ st h=>by
  obtain⟨⟨old,h1⟩,_⟩:=st;exact wpAny_pyIter_enum h1 h
end L2
namespace L2
open PySem PySem.Spec PyProof.Rows
section
variable {X:Cx} {elts:List Expr} {x1:Nat} {mU:Pos}
def C7(K:PySem.W.Frag)(ta:TA):TI:=fun σ H R=>ta σ H fun vs H1=>∃a xs,vs=[.ref a]/\gC K H1 a xs/\R (za K a) H1
theorem Fp{a:Expr}{ta:TA}{p pos:Pos}(hg:Gl X "enumerate")(hm:X.mg "enumerate"=none)(ha:PA X [a] ta)(hs:starEach [a] X.env=[(false,eval a X.env)]:=by rfl):PI X (.Tuple elts x1 mU) (.Call (.Name "enumerate" p) [a] [] pos) (C7 X.K ta):=by
 intro pins s σ H R I h;refine Call_ (k9 I hg hm boot_enumerate (PyProof.Rows.callWith_type1 (cf (ha pos pins s σ H _ I h) fun us s1 bG=>?_) hs rfl));obtain⟨vs,H1,I1,r1,q1⟩:=bG;obtain⟨l,xs,e,hl,q⟩:=q1;subst e;obtain⟨u,rfl,ru⟩:=ie r1;cases ru;obtain⟨z,its,n,r,e⟩:=I1.c9 hl;refine call_enumerate_1 e fun h' e1 e2 e3 kk=>?_
 refine wpAny_pyIter_enum e1 ?_;have cH:s1.heap.objs.size+1≠s1.heap.objs.size:=by omega
 refine⟨s1.heap.objs.size+1,[s1.heap.objs.size+1,s1.heap.objs.size],_,_,H1,rfl,I1.kept (t':=s1.toks) kk,HM l _ _ cH,⟨⟨_,e1⟩,e2⟩,fun b hb=>?_,q⟩;have qo:s1.heap.objs.size<=b:=by
  rcases ai.mp hb with rfl | hb
  ·exact Nat.le_succ _
  ·have e:b=s1.heap.objs.size:=by simpa using hb
   exact Nat.le_of_eq e.symm
 exact I1.i9 qo (I1.bX.fresh qo)
theorem FX{P:Program}{w:World}{K:PySem.W.Frag}(a b z TI TO i1 i2:Addr)(D1:TI≠z/\TO≠z/\i1≠z/\i2≠z/\TI≠TO/\TI≠i1/\TI≠i2/\TO≠i1/\TO≠i2/\i1≠i2):Turn P w K (.Tuple elts x1 mU) (y7 K a b) [z,TI,TO,i1,i2] z
  (fun i h=>IsZip h z TI TO .none/\IsPair h TI (.ref i1) (.ref i2)/\(∃a b,IsPair h TO a b)/\h.IsListIter i1 a i/\h.IsListIter i2 b i) where
 mem:=by simp
 obj:=fun i h st c hc=>by
  obtain⟨h1,h2,⟨u,v,h3⟩,⟨o1,g1,_,d1⟩,⟨o2,g2,_,d2⟩⟩:=st;simp only[ai,aB,or_false] at hc;rcases hc with rfl | rfl | rfl | rfl | rfl
  ·exact⟨_,h1,fun v z=>by have z':Data.fields _=Data.cell v:=z;cases z'⟩
  ·exact⟨_,h2,fun v z=>by have z':Data.seq _ _=Data.cell v:=z;cases z'⟩
  ·exact⟨_,h3,fun v z=>by have z':Data.seq _ _=Data.cell v:=z;cases z'⟩
  ·exact⟨_,g1,fun v z=>by rw[d1] at z;cases z⟩
  ·exact⟨_,g2,fun v z=>by rw[d2] at z;cases z⟩
 keep:=fun i h h' st k=>by
  obtain⟨h1,h2,⟨u,v,h3⟩,h4,h5⟩:=st;exact⟨k z (by simp) _ h1,k TI (by simp) _ h2,⟨u,v,k TO (by simp) _ h3⟩,h4.at fun o q=>k i1 (by simp) o q,h5.at fun o q=>k i2 (by simp) o q⟩
 item:=by
  intro X hP hw hK hc i pins s σ H E I hf st hg;subst hP hw hK;obtain⟨xs,ys,x,y,hq,j1,hx,hy⟩:=hg;obtain⟨its,rv,p,hz⟩:=I.list hq;obtain⟨gT,xO,p2,KZ⟩:=I.list j1;obtain⟨u,hu,ru⟩:=rv.get hx;obtain⟨v,hv,Kp⟩:=xO.get hy;obtain⟨h1,h2,⟨c,d,h3⟩,h4,h5⟩:=st;obtain⟨d1,d2,d3,d4,d5,d6,d7,d8,d9,yX⟩:=D1;have sC:∀{l:Addr} {its:List Value},PlainL s.heap l its.toArray->l≠z/\l≠TO/\l≠i1/\l≠i2:=fun{l its} pl=>by
   obtain⟨o,n,e,c1,_,dd⟩:=pl;obtain⟨o1,g1,c4,_⟩:=h4;obtain⟨o2,g2,c5,_⟩:=h5;refine⟨?_,?_,?_,?_⟩
   ·rintro rfl;rw[h1] at e;cases e;simp at c1
   ·rintro rfl;rw[h3] at e;cases e;simp at c1
   ·rintro rfl;rw[g1] at e;cases e;rw[c4] at c1;simp at c1
   ·rintro rfl;rw[g2] at e;cases e;rw[c5] at c1;simp at c1
  obtain⟨e1,e2,e3,e4⟩:=sC p;obtain⟨f1,f2,f3,f4⟩:=sC p2;have D:ZipApart z TI TO i1 i2 a b:=⟨d1,d2,d3,d4,d5,d6,d7,d8,d9,yX,e1,e2,e3,e4,f1,f2,f3,f4⟩
  refine wpAny_pyNext_zip_item D h1 h2 h3 h4 h5 p.isList p2.isList (x:=u) (y:=v) (by simpa using hu) (by simpa using hv) fun h' a1 a2 a3 a4 a5 a6 kk=>?_
  refine⟨_,rfl,wpAny_letOwnedTupleGo_zip a1 fun pd b1 sb=>?_⟩;have LC:s.heap.objs.size≠z:=Nat.ne_of_gt (aj h1);have cC:H s.heap.objs.size=none:=I.bX.fresh (aq _);have hT:pd.get? s.heap.objs.size=some { cls:=.type "tuple",data:=.seq #[u,v] }:=sb.extBut _ _ LC a5;have new:cJ X.prog X.w (upd H s.heap.objs.size (.tup [x,y])) pd s.heap.objs.size (.tup [x,y]):=⟨zQ,[u,v],.cons ru (.cons Kp .nil),⟨_,hT,rfl,_,rfl⟩⟩
  have lt:∀{c o},s.heap.get? c=some o->c≠s.heap.objs.size:=fun e=>az (aj e)
  refine⟨.ref s.heap.objs.size,upd H s.heap.objs.size (.tup [x,y]),I.hU (fp:=[z,TI,TO,i1,i2]) (t':=s.toks) (fun c o hc q=>sb.extBut c o (fun e=>hc (by simp[e])) (kk c o (fun e=>hc (by simp[e])) (fun e=>hc (by simp[e])) (fun e=>hc (by simp[e])) (fun e=>hc (by simp[e])) q)) hf (aq _) new,rfl,
   ⟨_,rfl,cC,fun zs ws h6 h7=>⟨x,y,by rw[I.eC h6 hq];exact hx,by rw[I.eC h7 j1];exact hy,rfl⟩⟩,
   ⟨b1,sb.extBut _ _ d1 (kk _ _ d1 d5 d6 d7 h2),⟨_,_,sb.extBut _ _ d2 a2⟩,a3.extBut sb.extBut d3,a4.extBut sb.extBut d4⟩,zP (fun b hb=>(hf b hb).1) fun c hc=>?_⟩
  simp only[ai,aB,or_false] at hc;rcases hc with rfl | rfl | rfl | rfl | rfl
  ·exact lt h1
  ·exact lt h2
  ·exact lt h3
  ·obtain⟨_,g,_⟩:=h4;exact lt g
  ·obtain⟨_,g,_⟩:=h5;exact lt g
 done:=by
  intro X hP hw hK hc i pins s σ H E I hf st hg;subst hP hw hK;obtain⟨xs,ys,hq,j1,hx⟩:=hg;obtain⟨its,rv,p,hz⟩:=I.list hq;obtain⟨gT,xO,p2,KZ⟩:=I.list j1;obtain⟨h1,h2,⟨c,d,h3⟩,h4,h5⟩:=st;obtain⟨d1,d2,d3,d4,d5,d6,d7,d8,d9,yX⟩:=D1;have sC:∀{l:Addr} {its:List Value},PlainL s.heap l its.toArray->l≠z/\l≠TO/\l≠i1/\l≠i2:=fun{l its} pl=>by
   obtain⟨o,n,e,c1,_,dd⟩:=pl;obtain⟨o1,g1,c4,_⟩:=h4;obtain⟨o2,g2,c5,_⟩:=h5;refine⟨?_,?_,?_,?_⟩
   ·rintro rfl;rw[h1] at e;cases e;simp at c1
   ·rintro rfl;rw[h3] at e;cases e;simp at c1
   ·rintro rfl;rw[g1] at e;cases e;rw[c4] at c1;simp at c1
   ·rintro rfl;rw[g2] at e;cases e;rw[c5] at c1;simp at c1
  obtain⟨e1,e2,e3,e4⟩:=sC p;obtain⟨f1,f2,f3,f4⟩:=sC p2;have D:ZipApart z TI TO i1 i2 a b:=⟨d1,d2,d3,d4,d5,d6,d7,d8,d9,yX,e1,e2,e3,e4,f1,f2,f3,f4⟩
  have l1:=rv.length;have l2:=xO.length;have yF:its.toArray[i]?=none\/gT.toArray[i]?=none:=by
   rcases hx with hx | hx
   ·exact .inl (by simp;omega)
   ·exact .inr (by simp;omega)
  exact wpAny_pyNext_zip_end (I.ok.hd hc) D h1 h2 h3 h4 h5 p.isList p2.isList yF fun h' kk=>⟨rfl,I.gn (fp:=[z,TI,TO,i1,i2]) (t':=s.toks) (fun c o hc q=>kk c o (fun e=>hc (by simp[e])) (fun e=>hc (by simp[e])) (fun e=>hc (by simp[e])) (fun e=>hc (by simp[e])) q) hf⟩
 self:=fun _ _ _ _ _ st h=>wpAny_pyIter_zip st.1 h
theorem HL(n:Nat):(n+2:Nat)≠n+4/\(n+3:Nat)≠n+4/\n≠n+4/\(n+1:Nat)≠n+4/\(n+2:Nat)≠n+3/\(n+2:Nat)≠n/\(n+2:Nat)≠n+1/\(n+3:Nat)≠n/\(n+3:Nat)≠n+1/\n≠n+1:=by omega
def Dz(K:PySem.W.Frag)(ta:TA):TI:=fun σ H R=>ta σ H fun vs H1=>∃a b,vs=[.ref a,.ref b]/\(∃xs,cN K H1 a xs)/\(∃ys,cN K H1 b ys)/\R (y7 K a b) H1
theorem EZ{a b:Expr}{ta:TA}{p pos:Pos}(hg:Gl X "zip")(hm:X.mg "zip"=none)(ha:PA X [a,b] ta)(hs:starEach [a,b] X.env=[(false,eval a X.env),(false,eval b X.env)]:=by rfl)(kA:starEach [b] X.env=[(false,eval b X.env)]:=by rfl) :
  PI X (.Tuple elts x1 mU) (.Call (.Name "zip" p) [a,b] [] pos) (Dz X.K ta):=by
 intro pins s σ H R I h;refine Call_ (k9 I hg hm boot_zip (PyProof.Rows.callWith_type1 (cf (ha pos pins s σ H _ I h) fun us s1 ⟨vs,H1,I1,r1,q1⟩=>?_) (by rw[hs,kA]) (by rw[kA];rfl)));obtain⟨l,l',e,⟨xs,hl⟩,⟨ys,Lm⟩,q⟩:=q1;subst e;obtain⟨u,v,rfl,ru,rv⟩:=tX r1;cases ru;cases rv;obtain⟨its,_,p1,_⟩:=I1.list hl;obtain⟨its',_,p2,_⟩:=I1.list Lm;refine call_zip_2 p1.isList p2.isList fun h' e1 e2 e3 e4 e5 e6 kk=>?_
 refine wpAny_pyIter_zip e1 ?_;refine⟨s1.heap.objs.size+4,[s1.heap.objs.size+4,s1.heap.objs.size+2,s1.heap.objs.size+3,s1.heap.objs.size,s1.heap.objs.size+1],_,_,H1,rfl,I1.kept (t':=s1.toks) kk,FX l l' _ _ _ _ _ (HL _),
  ⟨e1,e2,⟨_,_,e3⟩,e4,e5⟩,fun b hb=>?_,q⟩
 have qo:s1.heap.objs.size<=b:=by
  simp only[ai,aB,or_false] at hb;rcases hb with rfl | rfl | rfl | rfl | rfl<;>first | exact Nat.le_add_right _ _ | exact aq _
 exact I1.i9 qo (I1.bX.fresh qo)
end
end L2
namespace L2
open PySem PySem.Spec PyProof.Rows
inductive D where
 | non | bl (b:Bool) | int (i:Int) | str (x:Str) | tup (ds:List D) | lst (ds:List D) | obj (cn:Str) (fs:List (Str×D)) | dic (bS:List (Key×D)) | dit (bS:List (List Key×D)) | exc (cn:Str)
structure ClsAt (K:PySem.W.Frag) (cn:Str) (C:Addr):Prop where
 at_:PySem.W.nsIn K mainGlobals cn=some (some (.ref C))
 cls:ot K C
def fV(H:Hp):List (List Key×V)->List Addr->Prop
 | [],[]=>True
 | p::ps,b::bs=>H b=some (.tup (p.1.map kV))/\fV H ps bs
 | _,_=>False
theorem fV.mono{H H':Hp}(e:bw H H'):∀{ps:List (List Key×V)} {bs:List Addr},fV H ps bs->fV H' ps bs
 | [],[],h=>h
 | p::ps,b::bs,h=>⟨e _ _ h.1,fV.mono e h.2⟩
 | [],_::_,h=>h.elim
 | _::_,[],h=>h.elim
mutual
def Rep(K:PySem.W.Frag)(H:Hp):V->D->Prop
 | v,.non=>v=.non
 | v,.bl b=>v=.bl b
 | v,.int i=>v=.int i
 | v,.str x=>v=.str x
 | v,.tup ds=>∃a xs,v=.ref a/\H a=some (.tup xs)/\bc K H xs ds
 | v,.lst ds=>∃a xs,v=.ref a/\gC K H a xs/\bc K H xs ds
 | v,.obj cn fs=>∃a C dx gs,v=.ref a/\H a=some (.ins C dx gs)/\ClsAt K cn C/\(∀p∈fs,bT K C p.1)/\bP K H gs fs
 | v,.dic bS=>∃a ks ep,v=.ref a/\H a=some (.dK ks ep)/\c8 K H ks bS
 | v,.dit bS=>∃a ks bs,v=.ref a/\H a=some (.dT ks bs)/\fV H ks bs/\dD K H ks bS
 | v,.exc cn=>∃a φ C,v=.ref a/\H a=some (.ext φ)/\PySem.W.nsIn K mainGlobals cn=some (some (.ref C))/\∀h:Heap,φ h->∃o,h.get? a=some o/\o.cls=.ref C
def bc(K:PySem.W.Frag)(H:Hp):List V->List D->Prop
 | [],[]=>True
 | v::vs,d::ds=>Rep K H v d/\bc K H vs ds
 | _,_=>False
def bP(K:PySem.W.Frag)(H:Hp):List (Str×V)->List (Str×D)->Prop
 | [],[]=>True
 | v::vs,d::ds=>(v.1=d.1/\Rep K H v.2 d.2)/\bP K H vs ds
 | _,_=>False
def c8(K:PySem.W.Frag)(H:Hp):List (Key×V)->List (Key×D)->Prop
 | [],[]=>True
 | v::vs,d::ds=>(v.1=d.1/\Rep K H v.2 d.2)/\c8 K H vs ds
 | _,_=>False
def dD(K:PySem.W.Frag)(H:Hp):List (List Key×V)->List (List Key×D)->Prop
 | [],[]=>True
 | v::vs,d::ds=>(v.1=d.1/\Rep K H v.2 d.2)/\dD K H vs ds
 | _,_=>False
end
theorem bw.iY{K:PySem.W.Frag}{H H':Hp}{a:Addr}{xs:List V}(e:bw H H')(h:H a=some (.tup xs)):da K H' a xs:=da.of (e _ _ h)
theorem bw.mX{K:PySem.W.Frag}{H H':Hp}{a:Addr}{xs:List V}(e:bw H H')(h:da K H a xs):da K H' a xs:=by
 rcases h with(h | ⟨o,h⟩) | h
 ·exact .inl (.inl (e _ _ h))
 ·exact .inl (.inr ⟨o,e _ _ h⟩)
 ·exact .inr h
mutual
theorem Rep.mono{K:PySem.W.Frag}{H H':Hp}(e:bw H H'):∀(v:V) (d:D),Rep K H v d->Rep K H' v d
 | v,.non,h=>by simpa only[Rep] using h
 | v,.bl b,h=>by simpa only[Rep] using h
 | v,.int i,h=>by simpa only[Rep] using h
 | v,.str x,h=>by simpa only[Rep] using h
 | v,.tup ds,h=>by
  simp only[Rep] at h ⊢;obtain⟨a,xs,h1,h2,h3⟩:=h;exact⟨a,xs,h1,e _ _ h2,bc.mono e xs ds h3⟩
 | v,.lst ds,h=>by
  simp only[Rep] at h ⊢;obtain⟨a,xs,h1,h2,h3⟩:=h;exact⟨a,xs,h1,e.c9 h2,bc.mono e xs ds h3⟩
 | v,.obj cn fs,h=>by
  simp only[Rep] at h ⊢;obtain⟨a,C,dx,gs,h1,h2,h3,h4,h5⟩:=h;exact⟨a,C,dx,gs,h1,e _ _ h2,h3,h4,bP.mono e gs fs h5⟩
 | v,.dic bS,h=>by
  simp only[Rep] at h ⊢;obtain⟨a,ks,ep,h1,h2,h3⟩:=h;exact⟨a,ks,ep,h1,e _ _ h2,c8.mono e ks bS h3⟩
 | v,.dit bS,h=>by
  simp only[Rep] at h ⊢;obtain⟨a,ks,bs,h1,h2,h3,h4⟩:=h;exact⟨a,ks,bs,h1,e _ _ h2,h3.mono e,dD.mono e ks bS h4⟩
 | v,.exc cn,h=>by
  simp only[Rep] at h ⊢;obtain⟨a,φ,C,h1,h2,h3,h4⟩:=h;exact⟨a,φ,C,h1,e _ _ h2,h3,h4⟩
theorem bc.mono{K:PySem.W.Frag}{H H':Hp}(e:bw H H'):∀(vs:List V) (ds:List D),bc K H vs ds->bc K H' vs ds
 | [],[],h=>by simp only[bc]
 | v::vs,d::ds,h=>by
  simp only[bc] at h ⊢;exact⟨Rep.mono e v d h.1,bc.mono e vs ds h.2⟩
 | [],_::_,h=>by simp only[bc] at h
 | _::_,[],h=>by simp only[bc] at h
theorem bP.mono{K:PySem.W.Frag}{H H':Hp}(e:bw H H'):∀(vs:List (Str×V)) (ds:List (Str×D)),bP K H vs ds->bP K H' vs ds
 | [],[],h=>by simp only[bP]
 | (x,v)::vs,(y,d)::ds,h=>by
  simp only[bP] at h ⊢;exact⟨⟨h.1.1,Rep.mono e v d h.1.2⟩,bP.mono e vs ds h.2⟩
 | [],_::_,h=>by simp only[bP] at h
 | _::_,[],h=>by simp only[bP] at h
theorem c8.mono{K:PySem.W.Frag}{H H':Hp}(e:bw H H'):∀(vs:List (Key×V)) (ds:List (Key×D)),c8 K H vs ds->c8 K H' vs ds
 | [],[],h=>by simp only[c8]
 | (x,v)::vs,(y,d)::ds,h=>by
  simp only[c8] at h ⊢;exact⟨⟨h.1.1,Rep.mono e v d h.1.2⟩,c8.mono e vs ds h.2⟩
 | [],_::_,h=>by simp only[c8] at h
 | _::_,[],h=>by simp only[c8] at h
theorem dD.mono{K:PySem.W.Frag}{H H':Hp}(e:bw H H'):∀(vs:List (List Key×V)) (ds:List (List Key×D)),dD K H vs ds->dD K H' vs ds
 | [],[],h=>by simp only[dD]
 | (x,v)::vs,(y,d)::ds,h=>by
  simp only[dD] at h ⊢;exact⟨⟨h.1.1,Rep.mono e v d h.1.2⟩,dD.mono e vs ds h.2⟩
 | [],_::_,h=>by simp only[dD] at h
 | _::_,[],h=>by simp only[dD] at h
end
section
variable {K:PySem.W.Frag} {H H':Hp}
theorem bc.length:∀{vs:List V} {ds:List D},bc K H vs ds->vs.length=ds.length
 | [],[],_=>rfl
 | v::vs,d::ds,h=>by
  simp only[bc] at h;simp only[aw,bc.length h.2]
 | [],_::_,h=>by simp only[bc] at h
 | _::_,[],h=>by simp only[bc] at h
theorem bc.get:∀{vs:List V} {ds:List D} {i:Nat} {d:D},bc K H vs ds->ds[i]?=some d->∃v,vs[i]?=some v/\Rep K H v d
 | [],[],i,d,_,e=>by simp at e
 | v::vs,d'::ds,0,d,h,e=>by
  simp only[bc] at h;simp only[List.getElem?_cons_zero,aV] at e;subst e;exact⟨v,rfl,h.1⟩
 | v::vs,d'::ds,i+1,d,h,e=>by
  simp only[bc] at h;simp only[List.getElem?_cons_succ] at e ⊢;exact bc.get h.2 e
 | [],_::_,_,_,h,_=>by simp only[bc] at h
 | _::_,[],_,_,h,_=>by simp only[bc] at h
theorem bc.tu:∀{vs:List V} {ds:List D} {i:Nat} {v:V},bc K H vs ds->vs[i]?=some v->∃d,ds[i]?=some d/\Rep K H v d
 | [],[],i,d,_,e=>by simp at e
 | v'::vs,d::ds,0,v,h,e=>by
  simp only[bc] at h;simp only[List.getElem?_cons_zero,aV] at e;subst e;exact⟨d,rfl,h.1⟩
 | v'::vs,d::ds,i+1,v,h,e=>by
  simp only[bc] at h;simp only[List.getElem?_cons_succ] at e ⊢;exact bc.tu h.2 e
 | [],_::_,_,_,h,_=>by simp only[bc] at h
 | _::_,[],_,_,h,_=>by simp only[bc] at h
theorem bc.nil:bc K H [] []:=by simp only[bc]
theorem bc.cons{v:V}{vs:List V}{d:D}{ds:List D}(h:Rep K H v d)(hs:bc K H vs ds):bc K H (v::vs) (d::ds):=by simp only[bc];exact⟨h,hs⟩
theorem bc.append:∀{vs:List V} {ds:List D} {us:List V} {es:List D},bc K H vs ds->bc K H us es->bc K H (vs++us) (ds++es)
 | [],[],_,_,_,h=>h
 | v::vs,d::ds,_,_,h,h'=>by
  simp only[bc] at h;exact bc.cons h.1 (bc.append h.2 h')
 | [],_::_,_,_,h,_=>by simp only[bc] at h
 | _::_,[],_,_,h,_=>by simp only[bc] at h
theorem bc.take:∀{vs:List V} {ds:List D} (n:Nat),bc K H vs ds->bc K H (vs.take n) (ds.take n)
 | _,_,0,_=>bc.nil
 | [],[],_+1,_=>bc.nil
 | v::vs,d::ds,n+1,h=>by
  simp only[bc] at h;exact bc.cons h.1 (bc.take n h.2)
 | [],_::_,_+1,h=>by simp only[bc] at h
 | _::_,[],_+1,h=>by simp only[bc] at h
theorem bc.drop:∀{vs:List V} {ds:List D} (n:Nat),bc K H vs ds->bc K H (vs.drop n) (ds.drop n)
 | _,_,0,h=>h
 | [],[],_+1,_=>bc.nil
 | v::vs,d::ds,n+1,h=>by
  simp only[bc] at h;exact bc.drop n h.2
 | [],_::_,_+1,h=>by simp only[bc] at h
 | _::_,[],_+1,h=>by simp only[bc] at h
end
structure Ext (G H G' H':Hp):Prop where
 g:bw G G'
 h:bw H H'
 s:bw G' H'
 n:∀p,G p=none->H p≠none->G' p=none
theorem Ext.refl{G H:Hp}(s:bw G H):Ext G H G H:=⟨bw.refl _,bw.refl _,s,fun _ h _=>h⟩
theorem Ext.trans{G H G1 H1 G2 H2:Hp}(a:Ext G H G1 H1)(b:Ext G1 H1 G2 H2):Ext G H G2 H2:=
 ⟨a.g.trans b.g,a.h.trans b.h,b.s,fun p h1 h2=>b.n p (a.n p h1 h2) fun z=>h2 (a.h.free z)⟩
theorem nS{H:Hp}{p:Addr}{o:HO}(h:H p=none):bw H (upd H p o):=fun b u e=>by rw[cA (gO e h)];exact e
theorem HK{G H:Hp}{p:Addr}{o:HO}(s:bw G H):bw (upd G p o) (upd H p o):=fun b u e=>by
 by_cases hb:b=p
 ·subst hb;rw[fq] at e ⊢;exact e
 ·rw[cA hb] at e ⊢;exact s b u e
theorem Ext.new{G H:Hp}{p:Addr}{o:HO}(s:bw G H)(h:H p=none):Ext G H (upd G p o) (upd H p o):=
 ⟨nS (s.free h),nS h,HK s,fun q h1 h2=>by rw[cA (fun z=>h2 (by rw[z];exact h))];exact h1⟩
theorem Ext.own{G H:Hp}{p:Addr}{o:HO}(s:bw G H)(h:H p=none):Ext G H G (upd H p o):=
 ⟨bw.refl _,nS h,s.trans (nS h),fun q h1 _=>h1⟩
inductive OV where
 | ll (dv:List (List D))
 | dc (bS:List (Key×D))
 | dl (bS:List (Key×List D))
 | tl (d:D) (ds:List D)
 | ld (ph:List (List (Key×D)))
 | dt (bS:List (List Key×List D))
 | tp (ds:List D)
 | ob (cn:Str) (fs:List (Str×List D))
 | dq (bS:List (List Key×D))
noncomputable def OV.val:OV->D
 | .ll dv=>.lst (dv.map .lst)
 | .dc bS=>.dic bS
 | .dl bS=>.dic (bS.map fun p=>(p.1,.lst p.2))
 | .tl d ds=>.tup [d,.lst ds]
 | .ld ph=>.lst (ph.map .dic)
 | .dt bS=>.dit (bS.map fun p=>(p.1,.lst p.2))
 | .tp ds=>.tup ds
 | .ob cn fs=>.obj cn (fs.map fun p=>(p.1,.lst p.2))
 | .dq bS=>.dit bS
inductive R where
 | fz (d:D)
 | ow (ds:List D)
 | ov (o:OV)
noncomputable def R.val:R->D
 | .fz d=>d
 | .ow ds=>.lst ds
 | .ov o=>o.val
inductive Sl where
 | un
 | fz (d:D)
 | ow (ds:List D)
 | ov (o:OV)
noncomputable def R.sl:R->Sl
 | .fz d=>.fz d
 | .ow ds=>.ow ds
 | .ov o=>.ov o
def cp(K:PySem.W.Frag)(G H:Hp):List Addr->List (List D)->Prop
 | [],[]=>True
 | q::qs,ds::dv=>(∃xs,H q=some (.lst xs)/\bc K G xs ds)/\cp K G H qs dv
 | _,_=>False
theorem cp.mono{K:PySem.W.Frag}{G H G' H':Hp}(g:bw G G'):∀{qs:List Addr} {dv:List (List D)},(∀q∈qs,∀xs,H q=some (.lst xs)->H' q=some (.lst xs))->cp K G H qs dv->cp K G' H' qs dv
 | [],[],_,_=>by simp only[cp]
 | q::qs,ds::dv,hh,h=>by
  simp only[cp] at h ⊢;obtain⟨⟨xs,h1,h2⟩,h3⟩:=h;exact⟨⟨xs,hh q (by simp) xs h1,h2.mono g⟩,cp.mono g (fun r hr=>hh r (by simp[hr])) h3⟩
 | [],_::_,_,h=>by simp only[cp] at h
 | _::_,[],_,h=>by simp only[cp] at h
theorem cp.here{K:PySem.W.Frag}{G H:Hp}:∀{qs:List Addr} {dv:List (List D)},cp K G H qs dv->∀q∈qs,H q≠none
 | [],[],_,q,hq=>by cases hq
 | q::qs,ds::dv,h,r,hr=>by
  simp only[cp] at h;obtain⟨⟨xs,h1,h2⟩,h3⟩:=h;rcases ai.mp hr with rfl | hr
  ·rw[h1];exact nofun
  ·exact cp.here h3 r hr
 | [],_::_,h,_,_=>by simp only[cp] at h
 | _::_,[],h,_,_=>by simp only[cp] at h
theorem cp.iZ{K:PySem.W.Frag}{G H G':Hp}(g:bw G G'):∀{qs:List Addr} {dv:List (List D)},(∀q∈qs,∀xs,H q=some (.lst xs)->G' q=some (.lst xs))->cp K G H qs dv->bc K G' (qs.map V.ref) (dv.map D.lst)
 | [],[],_,_=>bc.nil
 | q::qs,ds::dv,hh,h=>by
  simp only[cp] at h;obtain⟨⟨xs,h1,h2⟩,h3⟩:=h;refine bc.cons ?_ (cp.iZ g (fun r hr=>hh r (by simp[hr])) h3);simp only[Rep];exact⟨q,xs,rfl,gC.of (hh q (by simp) xs h1),h2.mono g⟩
 | [],_::_,_,h=>by simp only[cp] at h
 | _::_,[],_,h=>by simp only[cp] at h
def cU(K:PySem.W.Frag)(G H:Hp):List Addr->List (List (Key×D))->Prop
 | [],[]=>True
 | q::qs,ds::dv=>(∃ks ep,H q=some (.dK ks ep)/\c8 K G ks ds)/\cU K G H qs dv
 | _,_=>False
theorem cU.mono{K:PySem.W.Frag}{G H G' H':Hp}(g:bw G G'):∀{qs:List Addr} {dv:List (List (Key×D))},(∀q∈qs,∀u,H q=some u->H' q=some u)->cU K G H qs dv->cU K G' H' qs dv
 | [],[],_,_=>by simp only[cU]
 | q::qs,ds::dv,hh,h=>by
  simp only[cU] at h ⊢;obtain⟨⟨ks,ep,h1,h2⟩,h3⟩:=h;exact⟨⟨ks,ep,hh q (by simp) _ h1,c8.mono g _ _ h2⟩,cU.mono g (fun r hr=>hh r (by simp[hr])) h3⟩
 | [],_::_,_,h=>by simp only[cU] at h
 | _::_,[],_,h=>by simp only[cU] at h
theorem cU.kind{K:PySem.W.Frag}{G H:Hp}:∀{qs:List Addr} {dv:List (List (Key×D))},cU K G H qs dv->∀q∈qs,∃ks ep,H q=some (.dK ks ep)
 | [],[],_,q,hq=>by cases hq
 | q::qs,ds::dv,h,r,hr=>by
  simp only[cU] at h;obtain⟨⟨ks,ep,h1,h2⟩,h3⟩:=h;rcases ai.mp hr with rfl | hr
  ·exact⟨ks,ep,h1⟩
  ·exact cU.kind h3 r hr
 | [],_::_,h,_,_=>by simp only[cU] at h
 | _::_,[],h,_,_=>by simp only[cU] at h
theorem cU.here{K:PySem.W.Frag}{G H:Hp}{qs:List Addr}{dv:List (List (Key×D))}(h:cU K G H qs dv):∀q∈qs,H q≠none:=fun q hq=>by
 obtain⟨ks,ep,e⟩:=h.kind q hq;rw[e];exact nofun
theorem cU.iZ{K:PySem.W.Frag}{G H G':Hp}(g:bw G G'):∀{qs:List Addr} {dv:List (List (Key×D))},(∀q∈qs,∀u,H q=some u->G' q=some u)->cU K G H qs dv->bc K G' (qs.map V.ref) (dv.map D.dic)
 | [],[],_,_=>bc.nil
 | q::qs,ds::dv,hh,h=>by
  simp only[cU] at h;obtain⟨⟨ks,ep,h1,h2⟩,h3⟩:=h;refine bc.cons ?_ (cU.iZ g (fun r hr=>hh r (by simp[hr])) h3);simp only[Rep];exact⟨q,ks,ep,rfl,hh q (by simp) _ h1,c8.mono g _ _ h2⟩
 | [],_::_,_,h=>by simp only[cU] at h
 | _::_,[],_,h=>by simp only[cU] at h
def gD(K:PySem.W.Frag)(G H:Hp)(p:Addr)(fp:List Addr):OV->Prop
 | .ll dv=>H p=some (.lst (fp.map V.ref))/\cp K G H fp dv
 | .dc bS=>fp=[]/\∃ks ep,H p=some (.dK ks ep)/\c8 K G ks bS
 | .dl bS=>∃ks ep,H p=some (.dK ks ep)/\ks.map (·.1)=bS.map (·.1)/\ks.map (·.2)=fp.map V.ref/\cp K G H fp (bS.map (·.2))
 | .tl d ds=>∃q v xs,fp=[q]/\H p=some (.tup [v,.ref q])/\Rep K G v d/\H q=some (.lst xs)/\bc K G xs ds
 | .ld ph=>H p=some (.lst (fp.map V.ref))/\cU K G H fp ph
 | .dt bS=>∃ks bs,H p=some (.dT ks bs)/\fV G ks bs/\ks.map (·.1)=bS.map (·.1)/\ks.map (·.2)=fp.map V.ref/\cp K G H fp (bS.map (·.2))
 | .tp ds=>fp=[]/\∃xs,H p=some (.tup xs)/\bc K G xs ds
 | .ob cn fs=>∃C dx gs,H p=some (.ins C dx gs)/\ClsAt K cn C/\(∀p∈fs,bT K C p.1)/\gs.map (·.1)=fs.map (·.1)/\gs.map (·.2)=fp.map V.ref/\cp K G H fp (fs.map (·.2))
 | .dq bS=>fp=[]/\∃ks bs,H p=some (.dT ks bs)/\fV G ks bs/\dD K G ks bS
theorem gD.here{K:PySem.W.Frag}{G H:Hp}{p:Addr}{fp:List Addr}{o:OV}(h:gD K G H p fp o):∀q∈p::fp,H q≠none:=by
 intro q hq;cases o with
 | ll dv=>
  rcases ai.mp hq with rfl | hq
  ·rw[h.1];exact nofun
  ·exact h.2.here q hq
 | dc bS=>
  obtain⟨rfl,ks,ep,h1,_⟩:=h;simp only[aD] at hq;subst hq;rw[h1];exact nofun
 | dl bS=>
  obtain⟨ks,ep,h1,_,_,h4⟩:=h;rcases ai.mp hq with rfl | hq
  ·rw[h1];exact nofun
  ·exact h4.here q hq
 | tl d ds=>
  obtain⟨r,v,xs,rfl,h1,_,h2,_⟩:=h;simp only[ai,aB,or_false] at hq;rcases hq with rfl | rfl
  ·rw[h1];exact nofun
  ·rw[h2];exact nofun
 | ld ph=>
  rcases ai.mp hq with rfl | hq
  ·rw[h.1];exact nofun
  ·exact h.2.here q hq
 | dt bS=>
  obtain⟨ks,bs,h1,_,_,_,h4⟩:=h;rcases ai.mp hq with rfl | hq
  ·rw[h1];exact nofun
  ·exact h4.here q hq
 | tp ds=>
  obtain⟨rfl,xs,h1,_⟩:=h;simp only[aD] at hq;subst hq;rw[h1];exact nofun
 | ob cn fs=>
  obtain⟨C,dx,gs,h1,_,_,_,_,h4⟩:=h;rcases ai.mp hq with rfl | hq
  ·rw[h1];exact nofun
  ·exact h4.here q hq
 | dq bS=>
  obtain⟨rfl,ks,bs,h1,_⟩:=h;simp only[aD] at hq;subst hq;rw[h1];exact nofun
theorem gD.mono{K:PySem.W.Frag}{G H G' H':Hp}{p:Addr}{fp:List Addr}{o:OV}(g:bw G G')(hh:∀q∈p::fp,∀u,H q=some u->H' q=some u)(h:gD K G H p fp o):gD K G' H' p fp o:=by
 cases o with
 | ll dv=>exact⟨hh p (by simp) _ h.1,h.2.mono g fun q hq xs=>hh q (by simp[hq]) _⟩
 | dc bS=>
  obtain⟨rfl,ks,ep,h1,h2⟩:=h;exact⟨rfl,ks,ep,hh p (by simp) _ h1,c8.mono g _ _ h2⟩
 | dl bS=>
  obtain⟨ks,ep,h1,h2,h3,h4⟩:=h;exact⟨ks,ep,hh p (by simp) _ h1,h2,h3,h4.mono g fun q hq xs=>hh q (by simp[hq]) _⟩
 | tl d ds=>
  obtain⟨r,v,xs,rfl,h1,h2,h3,h4⟩:=h;exact⟨r,v,xs,rfl,hh p (by simp) _ h1,h2.mono g,hh r (by simp) _ h3,h4.mono g⟩
 | ld ph=>exact⟨hh p (by simp) _ h.1,h.2.mono g fun q hq=>hh q (by simp[hq])⟩
 | dt bS=>
  obtain⟨ks,bs,h1,hk,h2,h3,h4⟩:=h;exact⟨ks,bs,hh p (by simp) _ h1,hk.mono g,h2,h3,h4.mono g fun q hq xs=>hh q (by simp[hq]) _⟩
 | tp ds=>
  obtain⟨rfl,xs,h1,h2⟩:=h;exact⟨rfl,xs,hh p (by simp) _ h1,h2.mono g⟩
 | ob cn fs=>
  obtain⟨C,dx,gs,h1,hc,hn,h2,h3,h4⟩:=h;exact⟨C,dx,gs,hh p (by simp) _ h1,hc,hn,h2,h3,h4.mono g fun q hq xs=>hh q (by simp[hq]) _⟩
 | dq bS=>
  obtain⟨rfl,ks,bs,h1,hk,h2⟩:=h;exact⟨rfl,ks,bs,hh p (by simp) _ h1,hk.mono g,dD.mono g _ _ h2⟩
theorem c8.cG{K:PySem.W.Frag}{G:Hp}:∀{ks:List (Key×V)} {bS:List (Key×List D)} {fp:List Addr},ks.map (·.1)=bS.map (·.1)->ks.map (·.2)=fp.map V.ref->bc K G (fp.map V.ref) ((bS.map (·.2)).map D.lst)->c8 K G ks (bS.map fun p=>(p.1,.lst p.2))
 | [],[],_,_,_,_=>by simp only[aW,c8]
 | a::ks,b::bS,fp,h1,h2,h3=>by
  simp only[av,List.cons.injEq] at h1;cases fp with
  | nil=>simp at h2
  | cons q fp=>
   simp only[av,List.cons.injEq] at h2;simp only[av,bc] at h3;simp only[av,c8];exact⟨⟨h1.1,by rw[h2.1];exact h3.1⟩,c8.cG h1.2 h2.2 h3.2⟩
 | [],_::_,_,h,_,_=>by simp at h
 | _::_,[],_,h,_,_=>by simp at h
theorem dD.cG{K:PySem.W.Frag}{G:Hp}:∀{ks:List (List Key×V)} {bS:List (List Key×List D)} {fp:List Addr},ks.map (·.1)=bS.map (·.1)->ks.map (·.2)=fp.map V.ref->bc K G (fp.map V.ref) ((bS.map (·.2)).map D.lst)->dD K G ks (bS.map fun p=>(p.1,.lst p.2))
 | [],[],_,_,_,_=>by simp only[aW,dD]
 | a::ks,b::bS,fp,h1,h2,h3=>by
  simp only[av,List.cons.injEq] at h1;cases fp with
  | nil=>simp at h2
  | cons q fp=>
   simp only[av,List.cons.injEq] at h2;simp only[av,bc] at h3;simp only[av,dD];exact⟨⟨h1.1,by rw[h2.1];exact h3.1⟩,dD.cG h1.2 h2.2 h3.2⟩
 | [],_::_,_,h,_,_=>by simp at h
 | _::_,[],_,h,_,_=>by simp at h
theorem bP.cG{K:PySem.W.Frag}{G:Hp}:∀{ks:List (Str×V)} {bS:List (Str×List D)} {fp:List Addr},ks.map (·.1)=bS.map (·.1)->ks.map (·.2)=fp.map V.ref->bc K G (fp.map V.ref) ((bS.map (·.2)).map D.lst)->bP K G ks (bS.map fun p=>(p.1,.lst p.2))
 | [],[],_,_,_,_=>by simp only[aW,bP]
 | a::ks,b::bS,fp,h1,h2,h3=>by
  simp only[av,List.cons.injEq] at h1;cases fp with
  | nil=>simp at h2
  | cons q fp=>
   simp only[av,List.cons.injEq] at h2;simp only[av,bc] at h3;simp only[av,bP];exact⟨⟨h1.1,by rw[h2.1];exact h3.1⟩,bP.cG h1.2 h2.2 h3.2⟩
 | [],_::_,_,h,_,_=>by simp at h
 | _::_,[],_,h,_,_=>by simp at h
noncomputable def kf(G H:Hp)(l:List Addr):Hp:=fun a=>if a∈l then H a else G a
theorem md{G H:Hp}{l:List Addr}{a:Addr}(h:a∈l):kf G H l a=H a:=if_pos h
theorem la{G H:Hp}{l:List Addr}{a:Addr}(h:a∉l):kf G H l a=G a:=if_neg h
theorem qZ{G H:Hp}{l:List Addr}(h:∀q∈l,G q=none):bw G (kf G H l):=fun b u e=>by
 rw[la (fun z=>by rw[h b z] at e;cases e)];exact e
theorem gD.freeze{K:PySem.W.Frag}{G H:Hp}{p:Addr}{fp:List Addr}{o:OV}(h:gD K G H p fp o)(hn:∀q∈p::fp,G q=none):Rep K (kf G H (p::fp)) (.ref p) o.val:=by
 have hs:=qZ (H:=H) hn;have hp:kf G H (p::fp) p=H p:=md (by simp);cases o with
 | ll dv=>
  simp only[OV.val,Rep];exact⟨p,_,rfl,gC.of (by rw[hp];exact h.1),h.2.iZ hs fun q hq xs e=>by rw[md (by simp[hq])];exact e⟩
 | dc bS=>
  obtain⟨rfl,ks,ep,h1,h2⟩:=h;simp only[OV.val,Rep];exact⟨p,ks,ep,rfl,by rw[hp];exact h1,c8.mono hs _ _ h2⟩
 | dl bS=>
  obtain⟨ks,ep,h1,h2,h3,h4⟩:=h;simp only[OV.val,Rep];exact⟨p,ks,ep,rfl,by rw[hp];exact h1,c8.cG h2 h3 (h4.iZ hs fun q hq xs e=>by rw[md (by simp[hq])];exact e)⟩
 | tl d ds=>
  obtain⟨r,v,xs,rfl,h1,h2,h3,h4⟩:=h;simp only[OV.val,Rep];refine⟨p,_,rfl,(by rw[hp];exact h1),bc.cons (h2.mono hs) (bc.cons ?_ bc.nil)⟩;simp only[Rep];exact⟨r,xs,rfl,gC.of (by rw[md (by simp)];exact h3),h4.mono hs⟩
 | dt bS=>
  obtain⟨ks,bs,h1,hk,h2,h3,h4⟩:=h;simp only[OV.val,Rep];exact⟨p,ks,bs,rfl,by rw[hp];exact h1,hk.mono hs,dD.cG h2 h3 (h4.iZ hs fun q hq xs e=>by rw[md (by simp[hq])];exact e)⟩
 | tp ds=>
  obtain⟨rfl,xs,h1,h2⟩:=h;simp only[OV.val,Rep];exact⟨p,xs,rfl,(by rw[hp];exact h1),h2.mono hs⟩
 | ob cn fs=>
  obtain⟨C,dx,gs,h1,hc,hn,h2,h3,h4⟩:=h;simp only[OV.val,Rep];refine⟨p,C,dx,gs,rfl,by rw[hp];exact h1,hc,fun u hu=>?_,bP.cG h2 h3 (h4.iZ hs fun q hq xs e=>by rw[md (by simp[hq])];exact e)⟩;obtain⟨v,hv,rfl⟩:=aF.mp hu;exact hn v hv
 | ld ph=>
  simp only[OV.val,Rep];exact⟨p,_,rfl,gC.of (by rw[hp];exact h.1),h.2.iZ hs fun q hq u e=>by rw[md (by simp[hq])];exact e⟩
 | dq bS=>
  obtain⟨rfl,ks,bs,h1,hk,h2⟩:=h;simp only[OV.val,Rep];exact⟨p,ks,bs,rfl,by rw[hp];exact h1,hk.mono hs,dD.mono hs _ _ h2⟩
noncomputable abbrev Ev:=List Sl
noncomputable def gt:Ev->Nat->Sl
 | [],_=>.un
 | a::_,0=>a
 | _::r,n+1=>gt r n
theorem qM{ρ:Ev}{i j:Nat}{s:Sl}:gt (ρ.set i s) j=if i=j/\j<ρ.length then s else gt ρ j:=by
 induction ρ generalizing i j with
 | nil=>simp[gt]
 | cons a r ih=>
  cases i with
  | zero=>
   cases j with
   | zero=>simp[gt]
   | succ j=>simp[gt]
  | succ i=>
   cases j with
   | zero=>simp[gt]
   | succ j=>simp[gt,ih]
def cP(K:PySem.W.Frag)(G' H' H:Hp)(v:V):R->Prop
 | .fz d=>Rep K G' v d
 | .ow ds=>∃p xs,v=.ref p/\H p=none/\G' p=none/\H' p=some (.lst xs)/\bc K G' xs ds
 | .ov o=>∃p fp,v=.ref p/\(p::fp).Nodup/\gD K G' H' p fp o/\∀q∈p::fp,H q=none/\G' q=none
structure cz (K:PySem.W.Frag) (G0 H0:Hp) (ρ:Ev) (σ:St) (G H:Hp):Prop where
 e:Ext G0 H0 G H
 len:σ.length=ρ.length
 fz:∀i d,gt ρ i=.fz d->∃v,σ[i]?=some (some v)/\Rep K G v d
 ow:∀i ds,gt ρ i=.ow ds->∃p xs,σ[i]?=some (some (.ref p))/\H p=some (.lst xs)/\G p=none/\H0 p=none/\bc K G xs ds
 dj:∀i j ds es,i≠j->gt ρ i=.ow ds->gt ρ j=.ow es->σ[i]?≠σ[j]?
 on:∃own:Addr->Option Nat,(∀i ds p,gt ρ i=.ow ds->σ[i]?=some (some (.ref p))->own p=some i)/\∀i o,gt ρ i=.ov o->∃p fp,σ[i]?=some (some (.ref p))/\(p::fp).Nodup/\gD K G H p fp o/\∀q∈p::fp,G q=none/\H0 q=none/\own q=some i
section
variable {K:PySem.W.Frag} {G0 H0 G H G' H' G2 H2:Hp} {ρ:Ev} {σ:St} {v:V}
theorem cz.ext(E:cz K G0 H0 ρ σ G H)(x:Ext G H G' H'):cz K G0 H0 ρ σ G' H' where
 e:=E.e.trans x
 len:=E.len
 fz:=fun i d h=>let⟨v,h1,h2⟩:=E.fz i d h;⟨v,h1,h2.mono x.g⟩
 ow:=fun i ds h=>let⟨p,xs,h1,h2,h3,h4,h5⟩:=E.ow i ds h;⟨p,xs,h1,x.h _ _ h2,x.n p h3 (by rw[h2];exact nofun),h4,h5.mono x.g⟩
 dj:=E.dj
 on:=by
  obtain⟨own,h1,h2⟩:=E.on;refine⟨own,h1,fun i o h=>?_⟩;obtain⟨p,fp,b1,b2,b3,b4⟩:=h2 i o h;exact⟨p,fp,b1,b2,b3.mono x.g fun q _ u e=>x.h q u e,fun q hq=>⟨x.n q (b4 q hq).1 (b3.here q hq),(b4 q hq).2⟩⟩
theorem cP.freeze{r:R}(x:Ext G H G' H')(h:cP K G' H' H v r):∃G2,Ext G H G2 H'/\Rep K G2 v r.val/\bw G' G2:=by
 cases r with
 | fz d=>exact⟨G',x,h,bw.refl _⟩
 | ow ds=>
  obtain⟨p,xs,h1,h2,h3,h4,h5⟩:=h;refine⟨upd G' p (.lst xs),⟨x.g.trans (nS h3),x.h,fun b o e=>?_,fun q yj j1=>?_⟩,?_,nS h3⟩
  ·by_cases hb:b=p
   ·subst hb;rw[fq] at e;rw[h4];exact e
   ·rw[cA hb] at e;exact x.s b o e
  ·rw[cA (fun z=>j1 (by rw[z];exact h2))];exact x.n q yj j1
  ·show Rep K (upd G' p (.lst xs)) v (.lst ds);simp only[Rep];exact⟨p,xs,h1,gC.of fq,h5.mono (nS h3)⟩
 | ov o=>
  obtain⟨p,fp,rfl,h1,h2,h3⟩:=h;have hn:∀q∈p::fp,G' q=none:=fun q hq=>(h3 q hq).2
  refine⟨kf G' H' (p::fp),⟨x.g.trans (qZ hn),x.h,fun b u e=>?_,fun q yj j1=>?_⟩,h2.freeze hn,qZ hn⟩
  ·by_cases hb:b∈p::fp
   ·rw[md hb] at e;exact e
   ·rw[la hb] at e;exact x.s b u e
  ·rw[la (fun z=>j1 (h3 q z).1)];exact x.n q yj j1
theorem cP.dz{r:R}{H1 H3:Hp}(s:bw H3 H1)(h:cP K G' H' H1 v r):cP K G' H' H3 v r:=by
 cases r with
 | fz d=>exact h
 | ow ds=>
  obtain⟨p,xs,h1,h2,h3,h4,h5⟩:=h;exact⟨p,xs,h1,s.free h2,h3,h4,h5⟩
 | ov o=>
  obtain⟨p,fp,rfl,h1,h2,h3⟩:=h;exact⟨p,fp,rfl,h1,h2,fun q hq=>⟨s.free (h3 q hq).1,(h3 q hq).2⟩⟩
end
noncomputable abbrev TD:=Ev->(R->Prop)->Prop
noncomputable abbrev gK:=Ev->(Bool->Prop)->Prop
noncomputable abbrev fU:=Ev->(List D->Prop)->Prop
structure DE where
 nx:Ev->Prop
 rt:R->Prop
 bk:Ev->Prop:=fun _=>False
 ct:Ev->Prop:=fun _=>False
noncomputable abbrev TX:=DE->Ev->Prop
def PD(X:Cx)(e:Expr)(t:TD):Prop:=∃tt,PE X e tt/\∀(ρ:Ev) (σ:St) (G0 H0 G H:Hp) (Q:R->Prop) (P:VK),cz X.K G0 H0 ρ σ G H->t ρ Q->
 (∀v H' r G',Ext G H G' H'->cP X.K G' H' H v r->Q r->P v H')->tt σ H P
def PB(X:Cx)(e:Expr)(t:gK):Prop:=∃tt,PT X e tt/\∀(ρ:Ev) (σ:St) (G0 H0 G H:Hp) (Q:Bool->Prop) (P:Bool->Hp->Prop),cz X.K G0 H0 ρ σ G H->t ρ Q->
 (∀b H' G',Ext G H G' H'->Q b->P b H')->tt σ H P
def iN(X:Cx)(es:List Expr)(t:fU):Prop:=∃tt,PA X es tt/\∀(ρ:Ev) (σ:St) (G0 H0 G H:Hp) (Q:List D->Prop) (P:List V->Hp->Prop),cz X.K G0 H0 ρ σ G H->t ρ Q->
 (∀vs H' ds G',Ext G H G' H'->bc X.K G' vs ds->Q ds->P vs H')->tt σ H P
structure Goes (K:PySem.W.Frag) (G0 H0 G:Hp) (D:DE) (E:Ends):Prop where
 nx:∀ρ σ G' H',bw G G'->cz K G0 H0 ρ σ G' H'->D.nx ρ->E.nx σ H'
 rt:∀v H' r G',Ext G0 H0 G' H'->cP K G' H' H0 v r->D.rt r->E.rt v H'
 bk:∀ρ σ G' H',bw G G'->cz K G0 H0 ρ σ G' H'->D.bk ρ->E.bk σ H'
 ct:∀ρ σ G' H',bw G G'->cz K G0 H0 ρ σ G' H'->D.ct ρ->E.ct σ H'
theorem Goes.shift{K:PySem.W.Frag}{G0 H0 G G':Hp}{D:DE}{E:Ends}(g:Goes K G0 H0 G D E)(s:bw G G'):Goes K G0 H0 G' D E:=
 ⟨fun ρ σ G2 H2 s2=>g.nx ρ σ G2 H2 (s.trans s2),g.rt,fun ρ σ G2 H2 s2=>g.bk ρ σ G2 H2 (s.trans s2),fun ρ σ G2 H2 s2=>g.ct ρ σ G2 H2 (s.trans s2)⟩
def PX(X:Cx)(st:Stmt)(t:TX):Prop:=∃tt,PS X st tt/\∀(ρ:Ev) (σ:St) (G0 H0 G H:Hp) (D:DE) (E:Ends),cz X.K G0 H0 ρ σ G H->t D ρ->Goes X.K G0 H0 G D E->tt E σ H
def j8(X:Cx)(st:List Stmt)(t:TX):Prop:=∃tt,j9 X st tt/\∀(ρ:Ev) (σ:St) (G0 H0 G H:Hp) (D:DE) (E:Ends),cz X.K G0 H0 ρ σ G H->t D ρ->Goes X.K G0 H0 G D E->tt E σ H
end L2
namespace L2
open PySem PySem.Spec PyProof.Rows
section
variable {X:Cx} {pos:Pos} {a b c:Expr} {ta tb tc:TD}
theorem ee{K:PySem.W.Frag}{G' H' H:Hp}{v:V}{d:D}(h:Rep K G' v d):cP K G' H' H v (.fz d):=h
def a9(i:Nat):TD:=fun ρ Q=>match gt ρ i with
 | .fz d=>Q (.fz d)
 | _=>False
theorem ba(i:Nat){x:Str}(hN:X.N[i]?=some x:=by rfl)(hv:lT X.env.scope x:=by first | exact Or.inl rfl | exact Or.inr (Or.inl rfl) | exact Or.inr (Or.inr rfl))(hd:(x==("__debug__":Str))=false:=by decide)
  (fL:(x==("__classdict__":Str))=false:=by decide):PD X (.Name x pos) (a9 i):=by
 refine⟨_,nP hN hv hd fL,fun ρ σ G0 H0 G H Q P E h k=>?_⟩;unfold a9 at h;split at h
 ·rename_i d e;obtain⟨v,h1,h2⟩:=E.fz i d e;exact⟨v,h1,k v H (.fz d) G (.refl E.e.s) h2 h⟩
 ·exact h.elim
def dC(d:D):TD:=fun _ Q=>Q (.fz d)
theorem uu{e:Expr}{v:V}{d:D}(h:PE X e (tC v))(r:∀K G,Rep K G v d):PD X e (dC d):=
 ⟨_,h,fun ρ σ G0 H0 G H Q P E h k=>k v H (.fz d) G (.refl E.e.s) (r _ _) h⟩
theorem gm(K:PySem.W.Frag)(G:Hp)(i:Int):Rep K G (.int i) (.int i):=by simp only[Rep]
theorem iR(K:PySem.W.Frag)(G:Hp)(i:Bool):Rep K G (.bl i) (.bl i):=by simp only[Rep]
theorem pN(K:PySem.W.Frag)(G:Hp)(i:Str):Rep K G (.str i) (.str i):=by simp only[Rep]
theorem Ap(K:PySem.W.Frag)(G:Hp):Rep K G .non .non:=by simp only[Rep]
theorem bu{i j}:PD X (.Constant (.int i) j pos) (dC (.int i)):=uu ET fun K G=>gm K G i
theorem jv{i j}:PD X (.Constant (.bool i) j pos) (dC (.bl i)):=uu DZ fun K G=>iR K G i
theorem jS{i j}:PD X (.Constant (.str i) j pos) (dC (.str i)):=uu ES fun K G=>pN K G i
theorem l8{j}:PD X (.Constant .none j pos) (dC .non):=uu zZ fun K G=>Ap K G
noncomputable abbrev O2:=D->D->(R->Prop)->Prop
def iu(X:Cx)(f:Value->Value->Sem Value)(o:O2):Prop:=∃r:R2,fH X f r/\∀(G H:Hp) (x y:V) (d e:D) (Q:R->Prop) (P:VK),bw G H->Rep X.K G x d->Rep X.K G y e->o d e Q->
 (∀v H' r' G',Ext G H G' H'->cP X.K G' H' H v r'->Q r'->P v H')->r x y H P
def bj(o:O2)(ta tb:TD):TD:=fun ρ Q=>ta ρ fun ra=>tb ρ fun rb=>o ra.val rb.val Q
theorem t8{r:R2}{o:O2}{rR rQ:TE}
  (hr:∀(G H:Hp) (x y:V) (d e:D) (Q:R->Prop) (P:VK),bw G H->Rep X.K G x d->Rep X.K G y e->o d e Q->(∀v H' r' G',Ext G H G' H'->cP X.K G' H' H v r'->Q r'->P v H')->r x y H P)
  (ha:∀(ρ:Ev) (σ:St) (G0 H0 G H:Hp) (Q:R->Prop) (P:VK),cz X.K G0 H0 ρ σ G H->ta ρ Q->(∀v H' r G',Ext G H G' H'->cP X.K G' H' H v r->Q r->P v H')->rR σ H P)
  (hb:∀(ρ:Ev) (σ:St) (G0 H0 G H:Hp) (Q:R->Prop) (P:VK),cz X.K G0 H0 ρ σ G H->tb ρ Q->(∀v H' r G',Ext G H G' H'->cP X.K G' H' H v r->Q r->P v H')->rQ σ H P)
  (ρ:Ev) (σ:St) (G0 H0 G H:Hp) (Q:R->Prop) (P:VK) (E:cz X.K G0 H0 ρ σ G H) (h:bj o ta tb ρ Q) (k:∀v H' r G',Ext G H G' H'->cP X.K G' H' H v r->Q r->P v H'):rX r rR rQ σ H P:=by
 refine ha ρ σ G0 H0 G H _ _ E h fun v H1 ra G1 x1 r1 h1=>?_
 obtain⟨Mc,xC,q1,_⟩:=r1.freeze x1;refine hb ρ σ G0 H0 Mc H1 _ _ (E.ext xC) h1 fun u H2 rb G2 x2 r2 h2=>?_
 obtain⟨Mb,uJ,q2,_⟩:=r2.freeze x2;refine hr Mb H2 v u _ _ Q P uJ.s (q1.mono uJ.g) q2 h2 fun v' H' r' G' x3 r3 h3=>?_
 have x4:=(xC.trans uJ).trans x3;exact k v' H' r' G' x4 (r3.dz (xC.trans uJ).h) h3
theorem bF{op:Operator}{o:O2}(ho:iu X (binaryOp op) o)(ha:PD X a ta)(hb:PD X b tb):PD X (.BinOp a op b pos) (bj o ta tb):=by
 obtain⟨r,hr,lE⟩:=ho;obtain⟨rR,pa,qa⟩:=ha;obtain⟨rQ,pb,qb⟩:=hb;exact⟨_,Eg hr pa pb,t8 lE qa qb⟩
theorem qL{op:CmpOp}{o:O2}(ho:iu X (compareOp op) o)(ha:PD X a ta)(hb:PD X b tb)(hm:behindInMarks op b=false:=by first | exact zW _ | rfl):PD X (.Compare a [op] [b] pos) (bj o ta tb):=by
 obtain⟨r,hr,lE⟩:=ho;obtain⟨rR,pa,qa⟩:=ha;obtain⟨rQ,pb,qb⟩:=hb;exact⟨_,FF hr pa pb hm,t8 lE qa qb⟩
def bZ(t:TD):gK:=fun ρ Q=>t ρ fun r=>match r with
 | .fz (.bl k)=>Q k
 | _=>False
theorem cS{op:CmpOp}{o:O2}(ho:iu X (compareOp op) o)(ha:PD X a ta)(hb:PD X b tb)(hm:behindInMarks op b=false:=by first | exact zW _ | rfl):PB X (.Compare a [op] [b] pos) (bZ (bj o ta tb)):=by
 obtain⟨r,hr,lE⟩:=ho;obtain⟨rR,pa,qa⟩:=ha;obtain⟨rQ,pb,qb⟩:=hb;refine⟨_,FE hr pa pb hm,fun ρ σ G0 H0 G H Q P E h k=>?_⟩;refine t8 lE qa qb ρ σ G0 H0 G H _ _ E h fun v H' r G' x1 r1 h1=>?_
 split at h1
 ·rename_i kk;have e:v=.bl kk:=by simpa only[cP,Rep] using r1
  exact⟨kk,e,k kk H' G' x1 h1⟩
 ·exact h1.elim
theorem jR{e:Expr}{t:TD}(h:PD X e t)(he:∀whole,isTrue e X.env whole=(do let v <-whole;standAt e.pos;holding [v] (truthy v)):=by intro _;rfl):PB X e (bZ t):=by
 obtain⟨tt,p,q⟩:=h;refine⟨_,ER p he,fun ρ σ G0 H0 G H Q P E h k=>?_⟩;refine q ρ σ G0 H0 G H _ _ E h fun v H' r G' x1 r1 h1=>?_
 split at h1
 ·rename_i kk;have e:v=.bl kk:=by simpa only[cP,Rep] using r1
  exact⟨kk,e,k kk H' G' x1 h1⟩
 ·exact h1.elim
def cR:O2:=fun d e Q=>match d,e with
 | .int i,.int j=>Q (.fz (.int (i+j)))
 | .str x,.str y=>x.length+y.length<=sizeLine/\Q (.fz (.str (x++y)))
 | .lst xs,.lst ys=>xs.length+ys.length<=sizeLine/\Q (.ow (xs++ys))
 | _,_=>False
def C6(K:PySem.W.Frag):R2:=fun x y H Q=>∃l b xs zs,x=.ref l/\y=.ref b/\gC K H l xs/\gC K H b zs/\xs.length+zs.length<=sizeLine/\∀p,H p=none->Q (.ref p) (upd H p (.lst (xs++zs)))
theorem Fo:fH X (binaryOp .Add) (C6 X.K):=by
 intro pins s σ H x y v u Q I rx ry h;obtain⟨l,b,xs,zs,rfl,rfl,hH,hB,hz,q⟩:=h;cases rx;cases ry;obtain⟨z,its,n,r,e⟩:=I.c9 hH;obtain⟨z2,gT,n2,r2,e2⟩:=I.c9 hB;have hl:=r.length;have uY:=r2.length;refine PySem.P.add_list e e2 ?_ (by rw[ah,ah];omega);have ea:its.toArray++gT.toArray=(its++gT).toArray:=by simp
 rw[ea];exact⟨.ref _,_,I.sA (t':=s.toks) (r.append r2) (by rw[au];omega),rfl,q _ I.fresh⟩
theorem nQ{G H:Hp}{xs:List V}{ds:List D}{Q:R->Prop}{P:VK}(s:bw G H)(r:bc X.K G xs ds)(q:Q (.ow ds))
  (k:∀v H' r' G',Ext G H G' H'->cP X.K G' H' H v r'->Q r'->P v H'):∀p,H p=none->P (.ref p) (upd H p (.lst xs)):=fun p hp=>
 k _ _ (.ow ds) G (.own s hp) ⟨p,xs,rfl,hp,s.free hp,fq,r⟩ q
theorem df:iu X (binaryOp .Add) cR:=by
 refine⟨_,oR.or (jB.or Fo),fun G H x y d e Q P s rx ry h k=>?_⟩;unfold cR at h;split at h
 ·simp only[Rep] at rx ry;exact .inl ⟨_,_,rx,ry,k _ _ _ G (.refl s) (ee (gm _ _ _)) h⟩
 ·simp only[Rep] at rx ry;exact .inr (.inl ⟨_,_,rx,ry,h.1,k _ _ _ G (.refl s) (ee (pN _ _ _)) h.2⟩)
 ·simp only[Rep] at rx ry;obtain⟨a,xs,rfl,hx,BO⟩:=rx;obtain⟨b,ys,rfl,hy,mj⟩:=ry;refine .inr (.inr ⟨_,_,_,_,rfl,rfl,s.c9 hx,s.c9 hy,by rw[BO.length,mj.length];exact h.1,nQ s (BO.append mj) h.2 k⟩)
 ·exact h.elim
def oI(C:Int->Int->Prop)(g:Int->Int->D):O2:=fun d e Q=>match d,e with
 | .int i,.int j=>C i j/\Q (.fz (g i j))
 | _,_=>False
def jW(g:Int->Int->D):O2:=fun d e Q=>match d,e with
 | .int i,.int j=>Q (.fz (g i j))
 | _,_=>False
theorem tU{f:Value->Value->Sem Value}{C:Int->Int->Prop}{g:Int->Int->V}{g':Int->Int->D}(h:fH X f (rI C g))(hg:∀K G i j,Rep K G (g i j) (g' i j)):iu X f (oI C g'):=by
 refine⟨_,h,fun G H x y d e Q P s rx ry h k=>?_⟩;unfold oI at h;split at h
 ·simp only[Rep] at rx ry;exact⟨_,_,rx,ry,h.1,k _ _ _ G (.refl s) (ee (hg _ _ _ _)) h.2⟩
 ·exact h.elim
theorem vS{f:Value->Value->Sem Value}{g:Int->Int->V}{g':Int->Int->D}(h:fH X f (oQ g))(hg:∀K G i j,Rep K G (g i j) (g' i j)):iu X f (jW g'):=by
 refine⟨_,h,fun G H x y d e Q P s rx ry h k=>?_⟩;unfold jW at h;split at h
 ·simp only[Rep] at rx ry;exact⟨_,_,rx,ry,k _ _ _ G (.refl s) (ee (hg _ _ _ _)) h⟩
 ·exact h.elim
theorem zD:iu X (binaryOp .Sub) (jW fun i j=>.int (i-j)):=vS EG fun K G i j=>gm K G _
theorem nK:iu X (binaryOp .Mult) (oI fN fun i j=>.int (i*j)):=tU EF fun K G i j=>gm K G _
theorem gM:iu X (binaryOp .FloorDiv) (oI gi fun i j=>.int (i/j)):=tU FH fun K G i j=>gm K G _
theorem eR:iu X (binaryOp .Mod) (oI (fun _ j=>0<j) fun i j=>.int (i%j)):=tU EE fun K G i j=>gm K G _
theorem tT:iu X (binaryOp .Pow) (oI l3 fun i j=>.int (i ^ j.toNat)):=tU ED fun K G i j=>gm K G _
theorem tQ:iu X (compareOp .Lt) (jW fun i j=>.bl (decide (i<j))):=vS Ee fun K G i j=>iR K G _
theorem zb:iu X (compareOp .Gt) (jW fun i j=>.bl (decide (j<i))):=vS Ed fun K G i j=>iR K G _
end
end L2
namespace L2
open PySem PySem.Spec PyProof.Rows PySem.SeqAt
mutual
noncomputable def bz:D->D->Bool
 | .non,.non=>true
 | .bl a,.bl b=>a==b
 | .bl a,.int b=>(if a then 1 else 0)==b
 | .int a,.bl b=>a==(if b then 1 else 0)
 | .int a,.int b=>a==b
 | .str a,.str b=>a==b
 | .tup xs,.tup ys=>iG xs ys
 | .lst xs,.lst ys=>iG xs ys
 | _,_=>false
noncomputable def iG:List D->List D->Bool
 | [],[]=>true
 | x::xs,y::ys=>bz x y&&iG xs ys
 | _,_=>false
end
def bQ:Nat->D->Prop
 | _,.non=>True
 | _,.bl _=>True
 | _,.int _=>True
 | _,.str _=>True
 | n+1,.tup ds=>∀d∈ds,bQ n d
 | n+1,.lst ds=>∀d∈ds,bQ n d
 | _,_=>False
theorem bQ.mono:∀{n m:Nat} {d:D},n<=m->bQ n d->bQ m d
 | n,m,.non,_,_=>by cases m<;>exact trivial
 | n,m,.bl _,_,_=>by cases m<;>exact trivial
 | n,m,.int _,_,_=>by cases m<;>exact trivial
 | n,m,.str _,_,_=>by cases m<;>exact trivial
 | 0,m,.tup ds,_,h=>by cases h
 | 0,m,.lst ds,_,h=>by cases h
 | n+1,0,.tup ds,l,h=>by omega
 | n+1,0,.lst ds,l,h=>by omega
 | n+1,m+1,.tup ds,l,h=>fun d hd=>bQ.mono (by omega) (h d hd)
 | n+1,m+1,.lst ds,l,h=>fun d hd=>bQ.mono (by omega) (h d hd)
 | 0,m,.obj _ _,_,h=>by cases h
 | n+1,m,.obj _ _,_,h=>by cases h
 | 0,m,.dic _,_,h=>by cases h
 | 0,m,.dit _,_,h=>by cases h
 | 0,m,.exc _,_,h=>by cases h
 | n+1,m,.dic _,_,h=>by cases h
 | n+1,m,.dit _,_,h=>by cases h
 | n+1,m,.exc _,_,h=>by cases h
mutual
theorem pU:∀(n:Nat) (d:D),bQ n d->bz d d=true
 | n,.non,_=>by simp only[bz]
 | n,.bl _,_=>by simp only[bz,beq_self_eq_true]
 | n,.int _,_=>by simp only[bz,beq_self_eq_true]
 | n,.str _,_=>by simp only[bz,beq_self_eq_true]
 | 0,.tup ds,h=>by cases h
 | 0,.lst ds,h=>by cases h
 | n+1,.tup ds,h=>by simp only[bz];exact wL n ds h
 | n+1,.lst ds,h=>by simp only[bz];exact wL n ds h
 | 0,.obj _ _,h=>by cases h
 | n+1,.obj _ _,h=>by cases h
 | 0,.dic _,h=>by cases h
 | 0,.dit _,h=>by cases h
 | 0,.exc _,h=>by cases h
 | n+1,.dic _,h=>by cases h
 | n+1,.dit _,h=>by cases h
 | n+1,.exc _,h=>by cases h
theorem wL:∀(n:Nat) (ds:List D),(∀d∈ds,bQ n d)->iG ds ds=true
 | n,[],_=>by simp only[iG]
 | n,d::ds,h=>by simp only[iG,pU n d (h d (by simp)),wL n ds (fun e he=>h e (by simp[he])),Bool.and_self]
end
theorem rh:∀{xs ys:List D},xs.length≠ys.length->iG xs ys=false
 | [],[],h=>absurd rfl h
 | x::xs,y::ys,h=>by
  rw[iG,rh (xs:=xs) (ys:=ys) (by simpa using h),Bool.and_false]
 | [],_::_,_=>by simp only[iG]
 | _::_,[],_=>by simp only[iG]
theorem rg:∀(xs ys:List D),xs.length=ys.length->iG xs ys=(List.range xs.length).all fun j=>bz (xs.getD j .non) (ys.getD j .non)
 | [],[],_=>by simp[iG]
 | x::xs,y::ys,h=>by
  rw[iG,rg xs ys (by simpa using h),aw,List.range_succ_eq_map,List.all_cons,List.all_map];congr 1
 | [],_::_,h=>by simp at h
 | _::_,[],h=>by simp at h
theorem wu(xs ys:List D):((List.range (min xs.length ys.length)).all (fun j=>bz (xs.getD j .non) (ys.getD j .non))&&xs.length==ys.length)=iG xs ys:=by
 by_cases h:xs.length=ys.length
 ·rw[rg xs ys h,h];simp
 ·rw[rh h];simp[h]
section
variable {X:Cx} {pins:List (Addr×Obj)} {σ:St} {H:Hp} {s:Shared}
mutual
theorem uk(I:Inv X pins σ H s):∀(n:Nat) (d e:D) (v:V),bQ n d->bQ n e->Rep X.K H v d->Rep X.K H v e->d=e
 | n,.non,e,v,h,h',r,r'=>by
  cases e<;>simp only[Rep] at r r'<;>subst r<;>first | rfl | (simp at r';done) | (simp only[V.bl.injEq,V.int.injEq,V.str.injEq] at r';rw[r'])
 | n,.bl b,e,v,h,h',r,r'=>by
  cases e<;>simp only[Rep] at r r'<;>subst r<;>first | rfl | (simp at r';done) | (simp only[V.bl.injEq,V.int.injEq,V.str.injEq] at r';rw[r'])
 | n,.int b,e,v,h,h',r,r'=>by
  cases e<;>simp only[Rep] at r r'<;>subst r<;>first | rfl | (simp at r';done) | (simp only[V.bl.injEq,V.int.injEq,V.str.injEq] at r';rw[r'])
 | n,.str b,e,v,h,h',r,r'=>by
  cases e<;>simp only[Rep] at r r'<;>subst r<;>first | rfl | (simp at r';done) | (simp only[V.bl.injEq,V.int.injEq,V.str.injEq] at r';rw[r'])
 | 0,.tup ds,e,v,h,h',r,r'=>by cases h
 | 0,.lst ds,e,v,h,h',r,r'=>by cases h
 | n+1,.tup ds,e,v,h,h',r,r'=>by
  simp only[Rep] at r;obtain⟨a,xs,rfl,q,rs⟩:=r;cases e<;>simp only[Rep] at r'
  case tup es=>
   obtain⟨b,ys,e1,q',fg⟩:=r';cases e1;rw[I.hV (da.of q') (da.of q)] at fg;rw[wt I n ds es xs h h' rs fg]
  case lst es=>
   obtain⟨b,ys,e1,q',fg⟩:=r';cases e1;obtain⟨its,_,ht,_⟩:=I.tuple (da.of q);obtain⟨its',_,hl,_⟩:=I.list q'.sq;exact absurd rfl (ne_of_list_tuple hl.isList (show s.heap.IsTuple a its.toArray from ht))
  case obj=>cases h'
  case dic=>cases h'
  case dit=>cases h'
  case exc=>cases h'
  all_goals cases r'
 | n+1,.lst ds,e,v,h,h',r,r'=>by
  simp only[Rep] at r;obtain⟨a,xs,rfl,q,rs⟩:=r;cases e<;>simp only[Rep] at r'
  case lst es=>
   obtain⟨b,ys,e1,q',fg⟩:=r';cases e1;rw[I.eC q'.sq q.sq] at fg;rw[wt I n ds es xs h h' rs fg]
  case tup es=>
   obtain⟨b,ys,e1,q',fg⟩:=r';cases e1;obtain⟨its,_,ht,_⟩:=I.tuple (da.of q');obtain⟨its',_,hl,_⟩:=I.list q.sq;exact absurd rfl (ne_of_list_tuple hl.isList (show s.heap.IsTuple a its.toArray from ht))
  case obj=>cases h'
  case dic=>cases h'
  case dit=>cases h'
  case exc=>cases h'
  all_goals cases r'
 | 0,.obj _ _,_,_,h,_,_,_=>by cases h
 | n+1,.obj _ _,_,_,h,_,_,_=>by cases h
 | 0,.dic _,_,_,h,_,_,_=>by cases h
 | 0,.dit _,_,_,h,_,_,_=>by cases h
 | 0,.exc _,_,_,h,_,_,_=>by cases h
 | n+1,.dic _,_,_,h,_,_,_=>by cases h
 | n+1,.dit _,_,_,h,_,_,_=>by cases h
 | n+1,.exc _,_,_,h,_,_,_=>by cases h
theorem wt(I:Inv X pins σ H s):∀(n:Nat) (ds es:List D) (vs:List V),(∀d∈ds,bQ n d)->(∀d∈es,bQ n d)->bc X.K H vs ds->bc X.K H vs es->ds=es
 | n,[],[],_,_,_,_,_=>rfl
 | n,d::ds,e::es,v::vs,h,h',r,r'=>by
  simp only[bc] at r r';rw[uk I n d e v (h d (by simp)) (h' e (by simp)) r.1 r'.1,wt I n ds es vs (fun x hx=>h x (by simp[hx])) (fun x hx=>h' x (by simp[hx])) r.2 r'.2]
 | n,[],_::_,[],_,_,_,r=>by simp only[bc] at r
 | n,[],_::_,_::_,_,_,r,_=>by simp only[bc] at r
 | n,_::_,[],[],_,_,r,_=>by simp only[bc] at r
 | n,_::_,[],_::_,_,_,_,r=>by simp only[bc] at r
 | n,_::_,_::_,[],_,_,r,_=>by simp only[bc] at r
end
theorem kj{vs:List V}{ds:List D}{us:List Value}{j:Nat}(rv:Vals vs us)(rd:bc X.K H vs ds)(hj:j<us.toArray.size):∃v,RelV v us.toArray[j]/\Rep X.K H v (ds.getD j .non)/\ds.getD j .non∈ds:=by
 have h1:j<us.length:=by simpa using hj
 have h2:j<vs.length:=by rw[rv.length];exact h1
 have h3:j<ds.length:=by rw[<-rd.length];exact h2
 obtain⟨u,hu,ru⟩:=rv.get (ar h2);obtain⟨d,hd,Kz⟩:=rd.tu (ar h2);rw[ar h1] at hu;rw[ar h3] at hd;cases hu;cases hd;refine⟨vs[j],?_,?_,?_⟩
 ·simpa using ru
 ·simpa[List.getD,h3] using Kz
 ·simp[List.getD,h3]
noncomputable def pH:D->Bool
 | .non=>true
 | .bl _=>true
 | .int _=>true
 | .str _=>true
 | _=>false
theorem Ao{d e:D}{x y:V}(hd:pH d=true)(he:pH e=true)(rx:Rep X.K H x d)(ry:Rep X.K H y e):tW x=true/\tW y=true/\yV x y=bz d e:=by
 cases d<;>first | cases hd | skip
 all_goals (cases e<;>first | cases he | skip)
 all_goals
  simp only[Rep] at rx ry;subst rx ry;exact⟨rfl,rfl,by simp[yV,bz]⟩
theorem qK(I:Inv X pins σ H s):∀(n:Nat) (A:Around) (d e:D) (x y:V) (v u:Value),bQ n d->bQ n e->A.units+n<cLine->Rep X.K H x d->Rep X.K H y e->RelV x v->RelV y u->EqAt A s v u (bz d e):=by
 intro n;induction n with
 | zero=>
  intro A d e x y v u hd he hu rx ry qx qy;have fd:pH d=true:=by cases d<;>first | rfl | cases hd
  have fe:pH e=true:=by cases e<;>first | rfl | cases he
  obtain⟨h1,h2,h3⟩:=Ao fd fe rx ry;rw[<-h3];exact zT qx qy h1 h2
 | succ n ih=>
  intro A d e x y v u hd he hu rx ry qx qy;have cj:A.units<cLine:=by omega
  have mq:A.in1.units+n<cLine:=by show A.units+1+n<cLine;omega
  by_cases fd:pH d=true
  ·by_cases fe:pH e=true
   ·obtain⟨h1,h2,h3⟩:=Ao fd fe rx ry;rw[<-h3];exact zT qx qy h1 h2
   ·cases e<;>first | exact absurd rfl fe | skip
    case tup es=>
     simp only[Rep] at ry;obtain⟨b,ys,rfl,q,rs⟩:=ry;cases qy;obtain⟨its,rv,ht,_⟩:=I.tuple (da.of q);have cB:s.heap.IsTuple b its.toArray:=ht;cases d<;>first | cases fd | skip
     ·simp only[Rep] at rx;subst rx;cases qx;simpa only[bz] using EqAt.none_tuple cB cj
     ·simp only[Rep] at rx;subst rx;cases qx;simpa only[bz] using EqAt.bool_tuple _ cB cj
     ·simp only[Rep] at rx;subst rx;obtain⟨t,rfl⟩:=qx;simpa only[bz] using EqAt.int_tuple _ t cB cj
     ·simp only[Rep] at rx;subst rx;obtain⟨t,rfl⟩:=qx;simpa only[bz] using EqAt.str_tuple _ t cB cj
    case lst es=>
     simp only[Rep] at ry;obtain⟨b,ys,rfl,q,rs⟩:=ry;cases qy;obtain⟨its,rv,ht,_⟩:=I.list q.sq;have cB:=ht.isList;cases d<;>first | cases fd | skip
     ·simp only[Rep] at rx;subst rx;cases qx;simpa only[bz] using EqAt.none_list cB cj
     ·simp only[Rep] at rx;subst rx;cases qx;simpa only[bz] using EqAt.bool_list _ cB cj
     ·simp only[Rep] at rx;subst rx;obtain⟨t,rfl⟩:=qx;simpa only[bz] using EqAt.int_list _ t cB cj
     ·simp only[Rep] at rx;subst rx;obtain⟨t,rfl⟩:=qx;simpa only[bz] using EqAt.str_list _ t cB cj
    case obj=>cases he
    case dic=>cases he
    case dit=>cases he
    case exc=>cases he
  ·cases d<;>first | exact absurd rfl fd | skip
   case tup ds=>
    have xN:=rx;simp only[Rep] at rx;obtain⟨a,xs,rfl,q,rs⟩:=rx;cases qx;obtain⟨its,rv,ht,_⟩:=I.tuple (da.of q);have cB:s.heap.IsTuple a its.toArray:=ht;cases e
    case non=>simp only[Rep] at ry;subst ry;cases qy;simpa only[bz] using EqAt.tuple_none cB cj
    case bl=>simp only[Rep] at ry;subst ry;cases qy;simpa only[bz] using EqAt.tuple_bool _ cB cj
    case int=>simp only[Rep] at ry;subst ry;obtain⟨t,rfl⟩:=qy;simpa only[bz] using EqAt.tuple_int _ t cB cj
    case str=>simp only[Rep] at ry;subst ry;obtain⟨t,rfl⟩:=qy;simpa only[bz] using EqAt.tuple_str _ t cB cj
    case lst es=>
     simp only[Rep] at ry;obtain⟨b,ys,rfl,q',fg⟩:=ry;cases qy;obtain⟨its',fY,hl,_⟩:=I.list q'.sq;simpa only[bz] using EqAt.tuple_list cB hl.isList cj
    case tup es=>
     have xM:=ry;simp only[Rep] at ry;obtain⟨b,ys,rfl,q',fg⟩:=ry;cases qy;obtain⟨its',fY,jZ,_⟩:=I.tuple (da.of q');by_cases iK:a=b
     ·subst iK;have e0:=uk I (n+1) _ _ _ hd he xN xM;rw[<-e0,pU (n+1) _ hd];exact EqAt.same _
     ·refine EqAt.of_refs iK ?_;have h:=RcAt.tuples (e:=fun j=>bz (ds.getD j .non) (es.getD j .non)) cB (show s.heap.IsTuple b its'.toArray from jZ) cj fun j h1 h2=>by
       obtain⟨v1,a1,b1,c1⟩:=kj rv rs h1;obtain⟨v2,a2,b2,c2⟩:=kj fY fg h2;exact ih A.in1 _ _ v1 v2 _ _ (hd _ c1) (he _ c2) mq b1 b2 a1 a2
      have l1:its.toArray.size=ds.length:=by rw[ah,<-rv.length,rs.length]
      have l2:its'.toArray.size=es.length:=by rw[ah,<-fY.length,fg.length]
      rw[l1,l2,wu] at h;simpa only[bz] using h
    case obj=>cases he
    case dic=>cases he
    case dit=>cases he
    case exc=>cases he
   case lst ds=>
    have xN:=rx;simp only[Rep] at rx;obtain⟨a,xs,rfl,q,rs⟩:=rx;cases qx;obtain⟨its,rv,ht,_⟩:=I.list q.sq;have cB:=ht.isList;cases e
    case non=>simp only[Rep] at ry;subst ry;cases qy;simpa only[bz] using EqAt.list_none cB cj
    case bl=>simp only[Rep] at ry;subst ry;cases qy;simpa only[bz] using EqAt.list_bool _ cB cj
    case int=>simp only[Rep] at ry;subst ry;obtain⟨t,rfl⟩:=qy;simpa only[bz] using EqAt.list_int _ t cB cj
    case str=>simp only[Rep] at ry;subst ry;obtain⟨t,rfl⟩:=qy;simpa only[bz] using EqAt.list_str _ t cB cj
    case tup es=>
     simp only[Rep] at ry;obtain⟨b,ys,rfl,q',fg⟩:=ry;cases qy;obtain⟨its',fY,hl,_⟩:=I.tuple (da.of q');simpa only[bz] using EqAt.list_tuple cB (show s.heap.IsTuple b its'.toArray from hl) cj
    case lst es=>
     have xM:=ry;simp only[Rep] at ry;obtain⟨b,ys,rfl,q',fg⟩:=ry;cases qy;obtain⟨its',fY,jZ,_⟩:=I.list q'.sq;by_cases iK:a=b
     ·subst iK;have e0:=uk I (n+1) _ _ _ hd he xN xM;rw[<-e0,pU (n+1) _ hd];exact EqAt.same _
     ·refine EqAt.of_refs iK ?_;have l1:its.toArray.size=ds.length:=by rw[ah,<-rv.length,rs.length]
      have l2:its'.toArray.size=es.length:=by rw[ah,<-fY.length,fg.length]
      by_cases hl:ds.length=es.length
      ·have h:=RcAt.lists (e:=fun j=>bz (ds.getD j .non) (es.getD j .non)) cB jZ.isList (by rw[l1,l2,hl]) cj fun j h1 h2=>by
        obtain⟨v1,a1,b1,c1⟩:=kj rv rs h1;obtain⟨v2,a2,b2,c2⟩:=kj fY fg h2;exact ih A.in1 _ _ v1 v2 _ _ (hd _ c1) (he _ c2) mq b1 b2 a1 a2
       rw[l1,<-rg ds es hl] at h;simpa only[bz] using h
      ·have h:=RcAt.lists_lengths (A:=A) cB jZ.isList (by rw[l1,l2];simpa using hl) cj;simp only[bz,rh hl];exact h
    case obj=>cases he
    case dic=>cases he
    case dit=>cases he
    case exc=>cases he
   case obj=>cases hd
   case dic=>cases hd
   case dit=>cases hd
   case exc=>cases hd
end
end L2
namespace L2
open PySem PySem.Spec PyProof.Rows PySem.SeqAt
section
variable {X:Cx} {pins:List (Addr×Obj)} {σ:St} {H:Hp} {s:Shared}
theorem EY(I:Inv X pins σ H s):∀(n:Nat) (A:Around) (d e:D) (x y:V) (v u:Value),bQ n d->bQ n e->A.units+n<cLine->Rep X.K H x d->Rep X.K H y e->RelV x v->RelV y u->RcAt A s v u (bz d e):=by
 intro n A d e x y v u hd he hu rx ry qx qy;have cj:A.units<cLine:=by omega
 cases d
 case non=>
  simp only[Rep] at rx;subst rx;cases qx;cases e
  case non=>simp only[Rep] at ry;subst ry;cases qy;simpa only[bz,Bool.not_true] using RcAt.none_none
  case bl=>simp only[Rep] at ry;subst ry;cases qy;simpa only[bz,ag] using RcAt.none_bool _
  case int=>simp only[Rep] at ry;subst ry;obtain⟨t,rfl⟩:=qy;simpa only[bz,ag] using RcAt.none_int _ t
  case str=>simp only[Rep] at ry;subst ry;obtain⟨t,rfl⟩:=qy;simpa only[bz,ag] using RcAt.none_str _ t
  case tup=>
   simp only[Rep] at ry;obtain⟨b,ys,rfl,q,rs⟩:=ry;cases qy;obtain⟨its,rv,ht,_⟩:=I.tuple (da.of q);simpa only[bz,ag] using RcAt.none_tuple (show s.heap.IsTuple b its.toArray from ht) cj
  case lst=>
   simp only[Rep] at ry;obtain⟨b,ys,rfl,q,rs⟩:=ry;cases qy;obtain⟨its,rv,ht,_⟩:=I.list q.sq;simpa only[bz,ag] using RcAt.none_list ht.isList cj
  case obj=>cases n<;>cases he
  case dic=>cases n<;>cases he
  case dit=>cases n<;>cases he
  case exc=>cases n<;>cases he
 case bl a=>
  simp only[Rep] at rx;subst rx;cases qx;cases e
  case non=>simp only[Rep] at ry;subst ry;cases qy;simpa only[bz,ag] using RcAt.bool_none _
  case bl=>simp only[Rep] at ry;subst ry;cases qy;simpa only[bz] using RcAt.bool_bool _ _
  case int=>simp only[Rep] at ry;subst ry;obtain⟨t,rfl⟩:=qy;simpa only[bz] using RcAt.bool_int _ _ t
  case str=>simp only[Rep] at ry;subst ry;obtain⟨t,rfl⟩:=qy;simpa only[bz,ag] using RcAt.bool_str _ _ t
  case tup=>
   simp only[Rep] at ry;obtain⟨b,ys,rfl,q,rs⟩:=ry;cases qy;obtain⟨its,rv,ht,_⟩:=I.tuple (da.of q);simpa only[bz,ag] using RcAt.bool_tuple _ (show s.heap.IsTuple b its.toArray from ht) cj
  case lst=>
   simp only[Rep] at ry;obtain⟨b,ys,rfl,q,rs⟩:=ry;cases qy;obtain⟨its,rv,ht,_⟩:=I.list q.sq;simpa only[bz,ag] using RcAt.bool_list _ ht.isList cj
  case obj=>cases n<;>cases he
  case dic=>cases n<;>cases he
  case dit=>cases n<;>cases he
  case exc=>cases n<;>cases he
 case int a=>
  simp only[Rep] at rx;subst rx;obtain⟨t0,rfl⟩:=qx;cases e
  case non=>simp only[Rep] at ry;subst ry;cases qy;simpa only[bz,ag] using RcAt.int_none _ t0
  case bl=>simp only[Rep] at ry;subst ry;cases qy;simpa only[bz] using RcAt.int_bool _ t0 _
  case int=>simp only[Rep] at ry;subst ry;obtain⟨t,rfl⟩:=qy;simpa only[bz] using RcAt.int_int _ t0 _ t
  case str=>simp only[Rep] at ry;subst ry;obtain⟨t,rfl⟩:=qy;simpa only[bz,ag] using RcAt.int_str _ t0 _ t
  case tup=>
   simp only[Rep] at ry;obtain⟨b,ys,rfl,q,rs⟩:=ry;cases qy;obtain⟨its,rv,ht,_⟩:=I.tuple (da.of q);simpa only[bz,ag] using RcAt.int_tuple _ t0 (show s.heap.IsTuple b its.toArray from ht) cj
  case lst=>
   simp only[Rep] at ry;obtain⟨b,ys,rfl,q,rs⟩:=ry;cases qy;obtain⟨its,rv,ht,_⟩:=I.list q.sq;simpa only[bz,ag] using RcAt.int_list _ t0 ht.isList cj
  case obj=>cases n<;>cases he
  case dic=>cases n<;>cases he
  case dit=>cases n<;>cases he
  case exc=>cases n<;>cases he
 case str a=>
  simp only[Rep] at rx;subst rx;obtain⟨t0,rfl⟩:=qx;cases e
  case non=>simp only[Rep] at ry;subst ry;cases qy;simpa only[bz,ag] using RcAt.str_none _ t0
  case bl=>simp only[Rep] at ry;subst ry;cases qy;simpa only[bz,ag] using RcAt.str_bool _ t0 _
  case int=>simp only[Rep] at ry;subst ry;obtain⟨t,rfl⟩:=qy;simpa only[bz,ag] using RcAt.str_int _ t0 _ t
  case str=>simp only[Rep] at ry;subst ry;obtain⟨t,rfl⟩:=qy;simpa only[bz] using RcAt.str_str _ t0 _ t
  case tup=>
   simp only[Rep] at ry;obtain⟨b,ys,rfl,q,rs⟩:=ry;cases qy;obtain⟨its,rv,ht,_⟩:=I.tuple (da.of q);simpa only[bz,ag] using RcAt.str_tuple _ t0 (show s.heap.IsTuple b its.toArray from ht) cj
  case lst=>
   simp only[Rep] at ry;obtain⟨b,ys,rfl,q,rs⟩:=ry;cases qy;obtain⟨its,rv,ht,_⟩:=I.list q.sq;simpa only[bz,ag] using RcAt.str_list _ t0 ht.isList cj
  case obj=>cases n<;>cases he
  case dic=>cases n<;>cases he
  case dit=>cases n<;>cases he
  case exc=>cases n<;>cases he
 case tup ds=>
  cases n with
  | zero=>cases hd
  | succ n=>
  have mq:A.in1.units+n<cLine:=by show A.units+1+n<cLine;omega
  simp only[Rep] at rx;obtain⟨a,xs,rfl,q,rs⟩:=rx;cases qx;obtain⟨its,rv,ht,_⟩:=I.tuple (da.of q);have cB:s.heap.IsTuple a its.toArray:=ht;cases e
  case non=>simp only[Rep] at ry;subst ry;cases qy;simpa only[bz,ag] using RcAt.tuple_none cB cj
  case bl=>simp only[Rep] at ry;subst ry;cases qy;simpa only[bz,ag] using RcAt.tuple_bool _ cB cj
  case int=>simp only[Rep] at ry;subst ry;obtain⟨t,rfl⟩:=qy;simpa only[bz,ag] using RcAt.tuple_int _ t cB cj
  case str=>simp only[Rep] at ry;subst ry;obtain⟨t,rfl⟩:=qy;simpa only[bz,ag] using RcAt.tuple_str _ t cB cj
  case lst es=>
   simp only[Rep] at ry;obtain⟨b,ys,rfl,q',fg⟩:=ry;cases qy;obtain⟨its',fY,hl,_⟩:=I.list q'.sq;simpa only[bz,ag] using RcAt.tuple_list cB hl.isList cj
  case tup es=>
   simp only[Rep] at ry;obtain⟨b,ys,rfl,q',fg⟩:=ry;cases qy;obtain⟨its',fY,jZ,_⟩:=I.tuple (da.of q');have h:=RcAt.tuples (e:=fun j=>bz (ds.getD j .non) (es.getD j .non)) cB (show s.heap.IsTuple b its'.toArray from jZ) cj fun j h1 h2=>by
    obtain⟨v1,a1,b1,c1⟩:=kj rv rs h1;obtain⟨v2,a2,b2,c2⟩:=kj fY fg h2;exact qK I n A.in1 _ _ v1 v2 _ _ (hd _ c1) (he _ c2) mq b1 b2 a1 a2
   have l1:its.toArray.size=ds.length:=by rw[ah,<-rv.length,rs.length]
   have l2:its'.toArray.size=es.length:=by rw[ah,<-fY.length,fg.length]
   rw[l1,l2,wu] at h;simpa only[bz] using h
  case obj=>cases he
  case dic=>cases he
  case dit=>cases he
  case exc=>cases he
 case lst ds=>
  cases n with
  | zero=>cases hd
  | succ n=>
  have mq:A.in1.units+n<cLine:=by show A.units+1+n<cLine;omega
  simp only[Rep] at rx;obtain⟨a,xs,rfl,q,rs⟩:=rx;cases qx;obtain⟨its,rv,ht,_⟩:=I.list q.sq;have cB:=ht.isList;cases e
  case non=>simp only[Rep] at ry;subst ry;cases qy;simpa only[bz,ag] using RcAt.list_none cB cj
  case bl=>simp only[Rep] at ry;subst ry;cases qy;simpa only[bz,ag] using RcAt.list_bool _ cB cj
  case int=>simp only[Rep] at ry;subst ry;obtain⟨t,rfl⟩:=qy;simpa only[bz,ag] using RcAt.list_int _ t cB cj
  case str=>simp only[Rep] at ry;subst ry;obtain⟨t,rfl⟩:=qy;simpa only[bz,ag] using RcAt.list_str _ t cB cj
  case tup es=>
   simp only[Rep] at ry;obtain⟨b,ys,rfl,q',fg⟩:=ry;cases qy;obtain⟨its',fY,hl,_⟩:=I.tuple (da.of q');simpa only[bz,ag] using RcAt.list_tuple cB (show s.heap.IsTuple b its'.toArray from hl) cj
  case lst es=>
   simp only[Rep] at ry;obtain⟨b,ys,rfl,q',fg⟩:=ry;cases qy;obtain⟨its',fY,jZ,_⟩:=I.list q'.sq;have l1:its.toArray.size=ds.length:=by rw[ah,<-rv.length,rs.length]
   have l2:its'.toArray.size=es.length:=by rw[ah,<-fY.length,fg.length]
   by_cases hl:ds.length=es.length
   ·have h:=RcAt.lists (e:=fun j=>bz (ds.getD j .non) (es.getD j .non)) cB jZ.isList (by rw[l1,l2,hl]) cj fun j h1 h2=>by
     obtain⟨v1,a1,b1,c1⟩:=kj rv rs h1;obtain⟨v2,a2,b2,c2⟩:=kj fY fg h2;exact qK I n A.in1 _ _ v1 v2 _ _ (hd _ c1) (he _ c2) mq b1 b2 a1 a2
    rw[l1,<-rg ds es hl] at h;simpa only[bz] using h
   ·have h:=RcAt.lists_lengths (A:=A) cB jZ.isList (by rw[l1,l2];simpa using hl) cj;simp only[bz,rh hl];exact h
  case obj=>cases he
  case dic=>cases he
  case dit=>cases he
  case exc=>cases he
 case obj=>cases n<;>cases hd
 case dic=>cases n<;>cases hd
 case dit=>cases n<;>cases hd
 case exc=>cases n<;>cases hd
theorem FW(I:Inv X pins σ H s):∀(n:Nat) (A:Around) (d e:D) (x y:V) (v u:Value),bQ n d->bQ n e->A.units+n<cLine->Rep X.K H x d->Rep X.K H y e->RelV x v->RelV y u->RcNeAt A s v u (!bz d e):=by
 intro n A d e x y v u hd he hu rx ry qx qy;have cj:A.units<cLine:=by omega
 cases d
 case non=>
  simp only[Rep] at rx;subst rx;cases qx;cases e
  case non=>simp only[Rep] at ry;subst ry;cases qy;simpa only[bz,Bool.not_true] using RcNeAt.none_none
  case bl=>simp only[Rep] at ry;subst ry;cases qy;simpa only[bz,ag] using RcNeAt.none_bool _
  case int=>simp only[Rep] at ry;subst ry;obtain⟨t,rfl⟩:=qy;simpa only[bz,ag] using RcNeAt.none_int _ t
  case str=>simp only[Rep] at ry;subst ry;obtain⟨t,rfl⟩:=qy;simpa only[bz,ag] using RcNeAt.none_str _ t
  case tup=>
   simp only[Rep] at ry;obtain⟨b,ys,rfl,q,rs⟩:=ry;cases qy;obtain⟨its,rv,ht,_⟩:=I.tuple (da.of q);simpa only[bz,ag] using RcNeAt.none_tuple (show s.heap.IsTuple b its.toArray from ht) cj
  case lst=>
   simp only[Rep] at ry;obtain⟨b,ys,rfl,q,rs⟩:=ry;cases qy;obtain⟨its,rv,ht,_⟩:=I.list q.sq;simpa only[bz,ag] using RcNeAt.none_list ht.isList cj
  case obj=>cases n<;>cases he
  case dic=>cases n<;>cases he
  case dit=>cases n<;>cases he
  case exc=>cases n<;>cases he
 case bl a=>
  simp only[Rep] at rx;subst rx;cases qx;cases e
  case non=>simp only[Rep] at ry;subst ry;cases qy;simpa only[bz,ag] using RcNeAt.bool_none _
  case bl=>simp only[Rep] at ry;subst ry;cases qy;simpa only[bz] using RcNeAt.bool_bool _ _
  case int=>simp only[Rep] at ry;subst ry;obtain⟨t,rfl⟩:=qy;simpa only[bz] using RcNeAt.bool_int _ _ t
  case str=>simp only[Rep] at ry;subst ry;obtain⟨t,rfl⟩:=qy;simpa only[bz,ag] using RcNeAt.bool_str _ _ t
  case tup=>
   simp only[Rep] at ry;obtain⟨b,ys,rfl,q,rs⟩:=ry;cases qy;obtain⟨its,rv,ht,_⟩:=I.tuple (da.of q);simpa only[bz,ag] using RcNeAt.bool_tuple _ (show s.heap.IsTuple b its.toArray from ht) cj
  case lst=>
   simp only[Rep] at ry;obtain⟨b,ys,rfl,q,rs⟩:=ry;cases qy;obtain⟨its,rv,ht,_⟩:=I.list q.sq;simpa only[bz,ag] using RcNeAt.bool_list _ ht.isList cj
  case obj=>cases n<;>cases he
  case dic=>cases n<;>cases he
  case dit=>cases n<;>cases he
  case exc=>cases n<;>cases he
 case int a=>
  simp only[Rep] at rx;subst rx;obtain⟨t0,rfl⟩:=qx;cases e
  case non=>simp only[Rep] at ry;subst ry;cases qy;simpa only[bz,ag] using RcNeAt.int_none _ t0
  case bl=>simp only[Rep] at ry;subst ry;cases qy;simpa only[bz] using RcNeAt.int_bool _ t0 _
  case int=>simp only[Rep] at ry;subst ry;obtain⟨t,rfl⟩:=qy;simpa only[bz] using RcNeAt.int_int _ t0 _ t
  case str=>simp only[Rep] at ry;subst ry;obtain⟨t,rfl⟩:=qy;simpa only[bz,ag] using RcNeAt.int_str _ t0 _ t
  case tup=>
   simp only[Rep] at ry;obtain⟨b,ys,rfl,q,rs⟩:=ry;cases qy;obtain⟨its,rv,ht,_⟩:=I.tuple (da.of q);simpa only[bz,ag] using RcNeAt.int_tuple _ t0 (show s.heap.IsTuple b its.toArray from ht) cj
  case lst=>
   simp only[Rep] at ry;obtain⟨b,ys,rfl,q,rs⟩:=ry;cases qy;obtain⟨its,rv,ht,_⟩:=I.list q.sq;simpa only[bz,ag] using RcNeAt.int_list _ t0 ht.isList cj
  case obj=>cases n<;>cases he
  case dic=>cases n<;>cases he
  case dit=>cases n<;>cases he
  case exc=>cases n<;>cases he
 case str a=>
  simp only[Rep] at rx;subst rx;obtain⟨t0,rfl⟩:=qx;cases e
  case non=>simp only[Rep] at ry;subst ry;cases qy;simpa only[bz,ag] using RcNeAt.str_none _ t0
  case bl=>simp only[Rep] at ry;subst ry;cases qy;simpa only[bz,ag] using RcNeAt.str_bool _ t0 _
  case int=>simp only[Rep] at ry;subst ry;obtain⟨t,rfl⟩:=qy;simpa only[bz,ag] using RcNeAt.str_int _ t0 _ t
  case str=>simp only[Rep] at ry;subst ry;obtain⟨t,rfl⟩:=qy;simpa only[bz] using RcNeAt.str_str _ t0 _ t
  case tup=>
   simp only[Rep] at ry;obtain⟨b,ys,rfl,q,rs⟩:=ry;cases qy;obtain⟨its,rv,ht,_⟩:=I.tuple (da.of q);simpa only[bz,ag] using RcNeAt.str_tuple _ t0 (show s.heap.IsTuple b its.toArray from ht) cj
  case lst=>
   simp only[Rep] at ry;obtain⟨b,ys,rfl,q,rs⟩:=ry;cases qy;obtain⟨its,rv,ht,_⟩:=I.list q.sq;simpa only[bz,ag] using RcNeAt.str_list _ t0 ht.isList cj
  case obj=>cases n<;>cases he
  case dic=>cases n<;>cases he
  case dit=>cases n<;>cases he
  case exc=>cases n<;>cases he
 case tup ds=>
  cases n with
  | zero=>cases hd
  | succ n=>
  have mq:A.in1.units+n<cLine:=by show A.units+1+n<cLine;omega
  simp only[Rep] at rx;obtain⟨a,xs,rfl,q,rs⟩:=rx;cases qx;obtain⟨its,rv,ht,_⟩:=I.tuple (da.of q);have cB:s.heap.IsTuple a its.toArray:=ht;cases e
  case non=>simp only[Rep] at ry;subst ry;cases qy;simpa only[bz,ag] using RcNeAt.tuple_none cB cj
  case bl=>simp only[Rep] at ry;subst ry;cases qy;simpa only[bz,ag] using RcNeAt.tuple_bool _ cB cj
  case int=>simp only[Rep] at ry;subst ry;obtain⟨t,rfl⟩:=qy;simpa only[bz,ag] using RcNeAt.tuple_int _ t cB cj
  case str=>simp only[Rep] at ry;subst ry;obtain⟨t,rfl⟩:=qy;simpa only[bz,ag] using RcNeAt.tuple_str _ t cB cj
  case lst es=>
   simp only[Rep] at ry;obtain⟨b,ys,rfl,q',fg⟩:=ry;cases qy;obtain⟨its',fY,hl,_⟩:=I.list q'.sq;simpa only[bz,ag] using RcNeAt.tuple_list cB hl.isList cj
  case tup es=>
   simp only[Rep] at ry;obtain⟨b,ys,rfl,q',fg⟩:=ry;cases qy;obtain⟨its',fY,jZ,_⟩:=I.tuple (da.of q');have h:=RcNeAt.tuples (e:=fun j=>bz (ds.getD j .non) (es.getD j .non)) cB (show s.heap.IsTuple b its'.toArray from jZ) cj fun j h1 h2=>by
    obtain⟨v1,a1,b1,c1⟩:=kj rv rs h1;obtain⟨v2,a2,b2,c2⟩:=kj fY fg h2;exact qK I n A.in1 _ _ v1 v2 _ _ (hd _ c1) (he _ c2) mq b1 b2 a1 a2
   have l1:its.toArray.size=ds.length:=by rw[ah,<-rv.length,rs.length]
   have l2:its'.toArray.size=es.length:=by rw[ah,<-fY.length,fg.length]
   rw[l1,l2,wu] at h;simpa only[bz] using h
  case obj=>cases he
  case dic=>cases he
  case dit=>cases he
  case exc=>cases he
 case lst ds=>
  cases n with
  | zero=>cases hd
  | succ n=>
  have mq:A.in1.units+n<cLine:=by show A.units+1+n<cLine;omega
  simp only[Rep] at rx;obtain⟨a,xs,rfl,q,rs⟩:=rx;cases qx;obtain⟨its,rv,ht,_⟩:=I.list q.sq;have cB:=ht.isList;cases e
  case non=>simp only[Rep] at ry;subst ry;cases qy;simpa only[bz,ag] using RcNeAt.list_none cB cj
  case bl=>simp only[Rep] at ry;subst ry;cases qy;simpa only[bz,ag] using RcNeAt.list_bool _ cB cj
  case int=>simp only[Rep] at ry;subst ry;obtain⟨t,rfl⟩:=qy;simpa only[bz,ag] using RcNeAt.list_int _ t cB cj
  case str=>simp only[Rep] at ry;subst ry;obtain⟨t,rfl⟩:=qy;simpa only[bz,ag] using RcNeAt.list_str _ t cB cj
  case tup es=>
   simp only[Rep] at ry;obtain⟨b,ys,rfl,q',fg⟩:=ry;cases qy;obtain⟨its',fY,hl,_⟩:=I.tuple (da.of q');simpa only[bz,ag] using RcNeAt.list_tuple cB (show s.heap.IsTuple b its'.toArray from hl) cj
  case lst es=>
   simp only[Rep] at ry;obtain⟨b,ys,rfl,q',fg⟩:=ry;cases qy;obtain⟨its',fY,jZ,_⟩:=I.list q'.sq;have l1:its.toArray.size=ds.length:=by rw[ah,<-rv.length,rs.length]
   have l2:its'.toArray.size=es.length:=by rw[ah,<-fY.length,fg.length]
   by_cases hl:ds.length=es.length
   ·have h:=RcNeAt.lists (e:=fun j=>bz (ds.getD j .non) (es.getD j .non)) cB jZ.isList (by rw[l1,l2,hl]) cj fun j h1 h2=>by
     obtain⟨v1,a1,b1,c1⟩:=kj rv rs h1;obtain⟨v2,a2,b2,c2⟩:=kj fY fg h2;exact qK I n A.in1 _ _ v1 v2 _ _ (hd _ c1) (he _ c2) mq b1 b2 a1 a2
    rw[l1,<-rg ds es hl] at h;simpa only[bz] using h
   ·have h:=RcNeAt.lists_lengths (A:=A) cB jZ.isList (by rw[l1,l2];simpa using hl) cj;simp only[bz,rh hl];exact h
  case obj=>cases he
  case dic=>cases he
  case dit=>cases he
  case exc=>cases he
 case obj=>cases n<;>cases hd
 case dic=>cases n<;>cases hd
 case dit=>cases n<;>cases hd
 case exc=>cases n<;>cases hd
end
section
variable {X:Cx}
def oEq:O2:=fun d e Q=>bQ 9 d/\bQ 9 e/\Q (.fz (.bl (bz d e)))
def ly:O2:=fun d e Q=>bQ 9 d/\bQ 9 e/\Q (.fz (.bl (!bz d e)))
theorem fW(hu:X.A.units+64<cLine):iu X (compareOp .Eq) oEq:=by
 refine⟨fun x y H Q=>∃d e,bQ 9 d/\bQ 9 e/\Rep X.K H x d/\Rep X.K H y e/\Q (.bl (bz d e)) H,fun pins s σ H x y v u Q I rx ry h=>?_,fun G H x y d e Q P s rx ry h k=>?_⟩
 ·obtain⟨d,e,hd,he,rd,re,q⟩:=h;exact EY I 9 X.A d e x y v u hd he (by omega) rd re rx ry _ _ _ _ ⟨.bl _,H,I,rfl,q⟩
 ·exact⟨d,e,h.1,h.2.1,rx.mono s,ry.mono s,k _ _ _ G (.refl s) (ee (iR _ _ _)) h.2.2⟩
theorem mG(hu:X.A.units+64<cLine):iu X (compareOp .NotEq) ly:=by
 refine⟨fun x y H Q=>∃d e,bQ 9 d/\bQ 9 e/\Rep X.K H x d/\Rep X.K H y e/\Q (.bl (!bz d e)) H,fun pins s σ H x y v u Q I rx ry h=>?_,fun G H x y d e Q P s rx ry h k=>?_⟩
 ·obtain⟨d,e,hd,he,rd,re,q⟩:=h;exact FW I 9 X.A d e x y v u hd he (by omega) rd re rx ry _ _ _ _ ⟨.bl _,H,I,rfl,q⟩
 ·exact⟨d,e,h.1,h.2.1,rx.mono s,ry.mono s,k _ _ _ G (.refl s) (ee (iR _ _ _)) h.2.2⟩
noncomputable def inD(d:D)(ds:List D):Bool:=ds.any fun e=>bz e d
def iF(neg:Bool):O2:=fun d e Q=>match d,e with
 | .str x,.str y=>Q (.fz (.bl (if neg then !(!(Builtin.Str.occurrences y x 0 y.length 1).isEmpty) else !(Builtin.Str.occurrences y x 0 y.length 1).isEmpty)))
 | d,.lst es=>bQ 8 d/\(∀e∈es,bQ 8 e)/\Q (.fz (.bl (if neg then !inD d es else inD d es)))
 | d,.tup es=>bQ 8 d/\(∀e∈es,bQ 8 e)/\Q (.fz (.bl (if neg then !inD d es else inD d es)))
 | _,_=>False
noncomputable def iL(X:Cx)(H:Hp)(d:D)(u:Value):Bool:=open Classical in if h:∃(v:V) (e:D),bQ 8 e/\RelV v u/\Rep X.K H v e then bz h.choose_spec.choose d else false
theorem vR{pins:List (Addr×Obj)}{σ:St}{H:Hp}{s:Shared}(I:Inv X pins σ H s){d e:D}{v:V}{u:Value}(he:bQ 8 e)(rv:RelV v u)(re:Rep X.K H v e):iL X H d u=bz e d:=by
 have h:∃(v:V) (e:D),bQ 8 e/\RelV v u/\Rep X.K H v e:=⟨v,e,he,rv,re⟩
 unfold iL;rw[dif_pos h];obtain⟨h1,h2,h3⟩:=h.choose_spec.choose_spec;have e1:h.choose=v:=RelV.inj h2 rv;have h4:∀v',v'=v->∀e',bQ 8 e'->Rep X.K H v' e'->e'=e:=fun v' hv e' o r=>by subst hv;exact uk I 8 _ e _ o he r re
 rw[h4 _ e1 _ h1 h3]
theorem qJ{pins:List (Addr×Obj)}{σ:St}{H:Hp}{s:Shared}(I:Inv X pins σ H s){d:D}:∀{es:List D} {vs:List V} {us:List Value},(∀e∈es,bQ 8 e)->Vals vs us->bc X.K H vs es->us.any (iL X H d)=inD d es
 | [],_,_,_,rv,re=>by
  cases rv
  ·rfl
  ·simp only[bc] at re
 | e::es,_,_,h,rv,re=>by
  cases rv with
  | nil=>simp only[bc] at re
  | cons r t=>
   simp only[bc] at re;rw[List.any_cons,vR I (h e (by simp)) r re.1,qJ I (fun x hx=>h x (by simp[hx])) t re.2];rfl
theorem rf{pins:List (Addr×Obj)}{σ:St}{H:Hp}{s:Shared}{A:Around}(I:Inv X pins σ H s){d:D}{x:V}{v:Value}(hd:bQ 8 d)(hu:A.units+8<cLine)(rx:Rep X.K H x d)(qx:RelV x v){es:List D}{vs:List V}{us:List Value}
  (he:∀e∈es,bQ 8 e) (rv:Vals vs us) (re:bc X.K H vs es):∀u∈us.toArray,EqAt A s u v (iL X H d u):=fun u K9=>by
 obtain⟨j,hj,e⟩:=Array.mem_iff_getElem.mp K9;obtain⟨w,a1,b1,c1⟩:=kj rv re hj;rw[e] at a1;rw[vR I (he _ c1) a1 b1];exact qK I 8 A _ _ w x _ _ (he _ c1) hd hu b1 rx a1 qx
theorem DR(hu:X.A.units+64<cLine):fH X (compareOp .In) (fun x y H Q=>∃p d es vs,y=.ref p/\(cN X.K H p vs\/da X.K H p vs)/\bQ 8 d/\(∀e∈es,bQ 8 e)/\Rep X.K H x d/\bc X.K H vs es/\Q (.bl (inD d es)) H):=by
 intro pins s σ H x y v u Q I rx ry h;obtain⟨p,d,es,vs,rfl,hq,hd,he,rd,re,q⟩:=h;cases ry;rcases hq with hq | hq
 ·obtain⟨its,r,pl,hz⟩:=I.list hq;refine SeqAt.in_listAt (iL X H d) pl.isList (rf I hd (by show X.A.units+1+8<cLine;omega) rd rx he r re) ⟨.bl _,H,I,rfl,?_⟩;rw[show its.toArray.any (iL X H d)=its.any (iL X H d) by simp,qJ I he r re];exact q
 ·obtain⟨its,r,pl,hz⟩:=I.tuple hq;refine SeqAt.in_tupleAt (iL X H d) pl (rf I hd (by show X.A.units+1+8<cLine;omega) rd rx he r re) ⟨.bl _,H,I,rfl,?_⟩;rw[show its.toArray.any (iL X H d)=its.any (iL X H d) by simp,qJ I he r re];exact q
theorem HJ(hu:X.A.units+64<cLine):fH X (compareOp .NotIn) (fun x y H Q=>∃p d es vs,y=.ref p/\(cN X.K H p vs\/da X.K H p vs)/\bQ 8 d/\(∀e∈es,bQ 8 e)/\Rep X.K H x d/\bc X.K H vs es/\Q (.bl (!inD d es)) H):=by
 intro pins s σ H x y v u Q I rx ry h;obtain⟨p,d,es,vs,rfl,hq,hd,he,rd,re,q⟩:=h;cases ry;rcases hq with hq | hq
 ·obtain⟨its,r,pl,hz⟩:=I.list hq;refine SeqAt.notIn_listAt (iL X H d) pl.isList (rf I hd (by show X.A.units+1+8<cLine;omega) rd rx he r re) ⟨.bl _,H,I,rfl,?_⟩;rw[show its.toArray.any (iL X H d)=its.any (iL X H d) by simp,qJ I he r re];exact q
 ·obtain⟨its,r,pl,hz⟩:=I.tuple hq;refine SeqAt.notIn_tupleAt (iL X H d) pl (rf I hd (by show X.A.units+1+8<cLine;omega) rd rx he r re) ⟨.bl _,H,I,rfl,?_⟩;rw[show its.toArray.any (iL X H d)=its.any (iL X H d) by simp,qJ I he r re];exact q
theorem nI(hu:X.A.units+64<cLine):iu X (compareOp .In) (iF false):=by
 refine⟨_,ky.or (DR hu),fun G H x y d e Q P s rx ry h k=>?_⟩;unfold iF at h;split at h
 ·simp only[Rep] at rx ry;exact .inl ⟨_,_,rx,ry,k _ _ _ G (.refl s) (ee (iR _ _ _)) h⟩
 ·simp only[Rep] at ry;obtain⟨a,ys,rfl,hy,mj⟩:=ry;exact .inr ⟨a,_,_,ys,rfl,.inl ((s.c9 hy).sq),h.1,h.2.1,rx.mono s,mj.mono s,k _ _ _ G (.refl s) (ee (iR _ _ _)) h.2.2⟩
 ·simp only[Rep] at ry;obtain⟨a,ys,rfl,hy,mj⟩:=ry;exact .inr ⟨a,_,_,ys,rfl,.inr (s.iY hy),h.1,h.2.1,rx.mono s,mj.mono s,k _ _ _ G (.refl s) (ee (iR _ _ _)) h.2.2⟩
 ·exact h.elim
theorem An(hu:X.A.units+64<cLine):iu X (compareOp .NotIn) (iF true):=by
 refine⟨_,ij.or (HJ hu),fun G H x y d e Q P s rx ry h k=>?_⟩;unfold iF at h;split at h
 ·simp only[Rep] at rx ry;exact .inl ⟨_,_,rx,ry,k _ _ _ G (.refl s) (ee (iR _ _ _)) h⟩
 ·simp only[Rep] at ry;obtain⟨a,ys,rfl,hy,mj⟩:=ry;exact .inr ⟨a,_,_,ys,rfl,.inl ((s.c9 hy).sq),h.1,h.2.1,rx.mono s,mj.mono s,k _ _ _ G (.refl s) (ee (iR _ _ _)) h.2.2⟩
 ·simp only[Rep] at ry;obtain⟨a,ys,rfl,hy,mj⟩:=ry;exact .inr ⟨a,_,_,ys,rfl,.inr (s.iY hy),h.1,h.2.1,rx.mono s,mj.mono s,k _ _ _ G (.refl s) (ee (iR _ _ _)) h.2.2⟩
 ·exact h.elim
noncomputable def oz:D->Bool
 | .non=>true
 | _=>false
def mF(neg:Bool):O2:=fun d e Q=>match e with
 | .non=>Q (.fz (.bl (if neg then !oz d else oz d)))
 | _=>False
theorem AN{K:PySem.W.Frag}{G:Hp}{x:V}{d:D}(r:Rep K G x d):decide (x=.non)=oz d:=by
 cases d<;>simp only[Rep] at r
 case non=>subst r;rfl
 case bl=>subst r;rfl
 case int=>subst r;rfl
 case str=>subst r;rfl
 case tup=>obtain⟨_,_,rfl,_⟩:=r;rfl
 case lst=>obtain⟨_,_,rfl,_⟩:=r;rfl
 case obj=>obtain⟨_,_,_,_,rfl,_⟩:=r;rfl
 case dic=>obtain⟨_,_,_,rfl,_⟩:=r;rfl
 case dit=>obtain⟨_,_,_,rfl,_⟩:=r;rfl
 case exc=>obtain⟨_,_,_,rfl,_⟩:=r;rfl
theorem Dy:iu X (compareOp .Is) (mF false):=by
 refine⟨_,EB,fun G H x y d e Q P s rx ry h k=>?_⟩;unfold mF at h;split at h
 ·simp only[Rep] at ry;refine⟨ry,?_⟩;rw[AN rx];exact k _ _ _ G (.refl s) (ee (iR _ _ _)) h
 ·exact h.elim
theorem wb:iu X (compareOp .IsNot) (mF true):=by
 refine⟨_,FG,fun G H x y d e Q P s rx ry h k=>?_⟩;unfold mF at h;split at h
 ·simp only[Rep] at ry;refine⟨ry,?_⟩;rw[AN rx];exact k _ _ _ G (.refl s) (ee (iR _ _ _)) h
 ·exact h.elim
end
end L2
namespace L2
open PySem PySem.Spec PyProof.Rows
section
variable {X:Cx} {pos:Pos} {a b c:Expr} {ta tb tc:TD} {pa qc:gK} {eU:List Expr}
def kd(t:gK):gK:=fun ρ Q=>t ρ fun k=>Q (!k)
def mE(t u:gK):gK:=fun ρ Q=>t ρ fun k=>if k=true then u ρ Q else Q false
def lS(t u:gK):gK:=fun ρ Q=>t ρ fun k=>if k=true then Q true else u ρ Q
theorem k8(h:PB X a pa):PB X (.UnaryOp .Not a pos) (kd pa):=by
 obtain⟨t,p,q⟩:=h;exact⟨_,EM p,fun ρ σ G0 H0 G H Q P E h k=>q ρ σ G0 H0 G H _ _ E h fun b H' G' x hq=>k _ H' G' x hq⟩
def oq(X:Cx)(e:Expr)(t:gK):Prop:=∃tt,PW X e tt/\∀(ρ:Ev) (σ:St) (G0 H0 G H:Hp) (Q:Bool->Prop) (P:Bool->Hp->Prop),cz X.K G0 H0 ρ σ G H->t ρ Q->
 (∀b H' G',Ext G H G' H'->Q b->P b H')->tt σ H P
theorem oq.pb{e:Expr}{t:gK}(h:oq X e t):PB X e t:=let⟨tt,p,q⟩:=h;⟨tt,p.pt,q⟩
theorem q5(h:PB X a pa):oq X (.BoolOp .And [a] pos) pa:=let⟨tt,p,q⟩:=h;⟨tt,Fg p,q⟩
theorem oG(h:PB X a pa):oq X (.BoolOp .Or [a] pos) pa:=let⟨tt,p,q⟩:=h;⟨tt,EO p,q⟩
theorem oF(h:PB X a pa)(h':oq X (.BoolOp .And (b::eU) pos) qc):oq X (.BoolOp .And (a::b::eU) pos) (mE pa qc):=by
 obtain⟨t,p,q⟩:=h;obtain⟨t',p',q'⟩:=h';refine⟨_,EN p p',fun ρ σ G0 H0 G H Q P E h k=>q ρ σ G0 H0 G H _ _ E h fun b H' G' x hq=>?_⟩;cases b with
 | true=>rw[if_pos rfl] at hq ⊢;exact q' ρ σ G0 H0 G' H' Q P (E.ext x) hq fun b2 H2 G2 x2 h2=>k b2 H2 G2 (x.trans x2) h2
 | false=>rw[if_neg aG] at hq ⊢;exact k false H' G' x hq
theorem mN(h:PB X a pa)(h':oq X (.BoolOp .Or (b::eU) pos) qc):oq X (.BoolOp .Or (a::b::eU) pos) (lS pa qc):=by
 obtain⟨t,p,q⟩:=h;obtain⟨t',p',q'⟩:=h';refine⟨_,DY p p',fun ρ σ G0 H0 G H Q P E h k=>q ρ σ G0 H0 G H _ _ E h fun b H' G' x hq=>?_⟩;cases b with
 | true=>rw[if_pos rfl] at hq ⊢;exact k true H' G' x hq
 | false=>rw[if_neg aG] at hq ⊢;exact q' ρ σ G0 H0 G' H' Q P (E.ext x) hq fun b2 H2 G2 x2 h2=>k b2 H2 G2 (x.trans x2) h2
def Dx(t:TD):TD:=fun ρ Q=>t ρ fun r=>match r with
 | .fz (.bl k)=>Q (.fz (.bl (!k)))
 | _=>False
def vv(t u:TD):TD:=fun ρ Q=>t ρ fun r=>match r with
 | .fz (.bl k)=>if k=true then u ρ Q else Q (.fz (.bl false))
 | _=>False
theorem DQ{op}(h:PD X a ta):PD X (.BoolOp op [a] pos) ta:=let⟨t,p,q⟩:=h;⟨t,EL p,q⟩
theorem DP(h:PD X a ta)(h':PD X (.BoolOp .And (b::eU) pos) tb):PD X (.BoolOp .And (a::b::eU) pos) (vv ta tb):=by
 obtain⟨t,p,q⟩:=h;obtain⟨t',p',q'⟩:=h';refine⟨_,EK p p',fun ρ σ G0 H0 G H Q P E h k=>q ρ σ G0 H0 G H _ _ E h fun v H' r G' x rr hq=>?_⟩;split at hq
 ·rename_i kk;have e:v=.bl kk:=by simpa only[cP,Rep] using rr
  refine⟨kk,e,?_⟩;cases kk with
  | true=>rw[if_pos rfl] at hq ⊢;exact q' ρ σ G0 H0 G' H' Q P (E.ext x) hq fun b2 H2 r2 G2 x2 se h2=>k b2 H2 r2 G2 (x.trans x2) (se.dz x.h) h2
  | false=>rw[if_neg aG] at hq ⊢;exact k _ H' _ G' x (ee (iR _ _ _)) hq
 ·exact hq.elim
def qu(t:gK)(ta tb:TD):TD:=fun ρ Q=>t ρ fun k=>if k=true then ta ρ Q else tb ρ Q
theorem wq(h:PB X c pa)(h1:PD X a ta)(h2:PD X b tb):PD X (.IfExp c a b pos) (qu pa ta tb):=by
 obtain⟨t,p,q⟩:=h;obtain⟨t1,p1,q1⟩:=h1;obtain⟨t2,p2,q2⟩:=h2;refine⟨_,Hk p p1 p2,fun ρ σ G0 H0 G H Q P E h k=>q ρ σ G0 H0 G H _ _ E h fun b H' G' x hq=>?_⟩;cases b with
 | true=>rw[if_pos rfl] at hq ⊢;exact q1 ρ σ G0 H0 G' H' Q P (E.ext x) hq fun b2 H2 r2 G2 x2 se h2=>k b2 H2 r2 G2 (x.trans x2) (se.dz x.h) h2
 | false=>rw[if_neg aG] at hq ⊢;exact q2 ρ σ G0 H0 G' H' Q P (E.ext x) hq fun b2 H2 r2 G2 x2 se h2=>k b2 H2 r2 G2 (x.trans x2) (se.dz x.h) h2
abbrev y1(K:PySem.W.Frag)(t:TD)(tt:TE):Prop:=∀(ρ:Ev) (σ:St) (G0 H0 G H:Hp) (Q:R->Prop) (P:VK),cz K G0 H0 ρ σ G H->t ρ Q->(∀v H' r G',Ext G H G' H'->cP K G' H' H v r->Q r->P v H')->tt σ H P
def b9:O2:=fun d e Q=>match d,e with
 | .lst ds,.int i=>∃d,cQ ds i=some d/\Q (.fz d)
 | .tup ds,.int i=>∃d,cQ ds i=some d/\Q (.fz d)
 | .str z,.int i=>z.length<=sizeLine/\∃c,cQ z.cps.toList i=some c/\Q (.fz (.str ⟨#[c]⟩))
 | _,_=>False
theorem wa{K:PySem.W.Frag}{G:Hp}{xs:List V}{ds:List D}{i:Int}{d:D}(r:bc K G xs ds)(h:cQ ds i=some d):∃v,cQ xs i=some v/\Rep K G v d:=by
 unfold cQ at h ⊢;rw[r.length];cases e:n8 ds.length i with
 | none=>rw[e] at h;cases h
 | some j=>
  rw[e] at h;simp only[Option.bind_some] at h ⊢;exact r.get h
theorem cq(h1:PD X a ta)(h2:PD X b tb)(hs:vX b:=by intro _ _;rfl):PD X (.Subscript a b pos) (bj b9 ta tb):=by
 obtain⟨t1,p1,q1⟩:=h1;obtain⟨t2,p2,q2⟩:=h2;refine⟨_,zE zU p1 p2 hs,t8 (r:=BQ X.K) (fun G H x y d e Q P s rx ry h k=>?_) q1 q2⟩;unfold b9 at h;split at h
 ·simp only[Rep] at rx ry;obtain⟨p,xs,rfl,hq,rs⟩:=rx;obtain⟨d,hd,q⟩:=h;obtain⟨v,hv,rv⟩:=wa rs hd;exact .inl ⟨p,xs,_,v,rfl,ry,(s.c9 hq).sq,hv,k _ _ _ G (.refl s) (ee rv) q⟩
 ·simp only[Rep] at rx ry;obtain⟨p,xs,rfl,hq,rs⟩:=rx;obtain⟨d,hd,q⟩:=h;obtain⟨v,hv,rv⟩:=wa rs hd;exact .inr (.inl ⟨p,xs,_,v,rfl,ry,s.iY hq,hv,k _ _ _ G (.refl s) (ee rv) q⟩)
 ·simp only[Rep] at rx ry;obtain⟨hz,c,hc,q⟩:=h;exact .inr (.inr ⟨_,_,c,rx,ry,hz,hc,k _ _ _ G (.refl s) (ee (pN _ _ _)) q⟩)
 ·exact h.elim
def qF(i:Nat)(tb:TD):TD:=fun ρ Q=>match gt ρ i with
 | .ow ds=>tb ρ fun rb=>match rb.val with
  | .int j=>∃d,cQ ds j=some d/\Q (.fz d)
  | _=>False
 | _=>False
theorem zO(i:Nat){x:Str}{p':Pos}(h2:PD X b tb)(hN:X.N[i]?=some x:=by rfl)(hv:lT X.env.scope x:=by first | exact Or.inl rfl | exact Or.inr (Or.inl rfl) | exact Or.inr (Or.inr rfl))(hs:vX b:=by intro _ _;rfl)(hd:(x==("__debug__":Str))=false:=by decide)
  (fL:(x==("__classdict__":Str))=false:=by decide):PD X (.Subscript (.Name x p') b pos) (qF i tb):=by
 obtain⟨t2,p2,q2⟩:=h2;refine⟨_,zE zU (nP hN hv hd fL) p2 hs,fun ρ σ G0 H0 G H Q P E h k=>?_⟩;unfold qF at h;split at h
 ·rename_i ds hg;obtain⟨p,xs,h1,h2,h3,h4,h5⟩:=E.ow i ds hg;refine⟨_,h1,q2 ρ σ G0 H0 G H _ _ E h fun v H' r G' x1 rr hq=>?_⟩;obtain⟨G2,x2,rv,_⟩:=rr.freeze x1;split at hq
  ·rename_i j e2;obtain⟨d,o8,q⟩:=hq;obtain⟨w',hw,ml⟩:=wa (h5.mono x2.g) o8;rw[e2] at rv;simp only[Rep] at rv;exact .inl ⟨p,xs,_,w',rfl,rv,cN.of (x2.h _ _ h2),hw,k _ _ _ G2 x2 (ee ml) q⟩
  ·exact hq.elim
 ·exact h.elim
variable {e:Expr} {es:List Expr} {te:TD} {ts:fU}
def bx:fU:=fun _ Q=>Q []
def bh(te:TD)(ts:fU):fU:=fun ρ Q=>te ρ fun r=>ts ρ fun ds=>Q (r.val::ds)
theorem bA:iN X [] bx:=⟨_,nO,fun ρ σ G0 H0 G H Q P E h k=>k [] H [] G (.refl E.e.s) bc.nil h⟩
theorem bp(h:PD X e te)(hr:iN X es ts)(hs:starEach (e::es) X.env=(false,eval e X.env)::starEach es X.env:=by rfl):iN X (e::es) (bh te ts):=by
 obtain⟨t1,p1,q1⟩:=h;obtain⟨t2,p2,q2⟩:=hr;refine⟨_,mQ p1 p2 hs,fun ρ σ G0 H0 G H Q P E h k=>q1 ρ σ G0 H0 G H _ _ E h fun v H' r G' x1 rr hq=>?_⟩;obtain⟨G2,x2,rv,_⟩:=rr.freeze x1;refine q2 ρ σ G0 H0 G2 H' _ _ (E.ext x2) hq fun vs H3 ds G3 x3 rs i4=>?_
 exact k _ H3 _ G3 (x2.trans x3) (bc.cons (rv.mono x3.g) rs) i4
def g7(ts:fU):TD:=fun ρ Q=>ts ρ fun ds=>ds.length<=sizeLine/\Q (.fz (.tup ds))
def ff(ts:fU):TD:=fun ρ Q=>ts ρ fun ds=>ds.length<=sizeLine/\Q (.ow ds)
theorem jQ{x1}(h:iN X es ts):PD X (.Tuple es x1 pos) (g7 ts):=by
 obtain⟨t,p,q⟩:=h;refine⟨_,Ey p,fun ρ σ G0 H0 G H Q P E h k=>q ρ σ G0 H0 G H _ _ E h fun vs H' ds G' x rs hq=>⟨by rw[rs.length];exact hq.1,fun p hp=>?_⟩⟩;have x2:Ext G' H' (upd G' p (.tup vs)) (upd H' p (.tup vs)):=.new x.s hp;refine k _ _ (.fz (.tup ds)) _ (x.trans x2) ?_ hq.2;show Rep X.K _ _ (.tup ds);simp only[Rep];exact⟨p,vs,rfl,fq,rs.mono x2.g⟩
theorem fI(h:iN X es ts):PD X (.List es pos) (ff ts):=by
 obtain⟨t,p,q⟩:=h;refine⟨_,zV p,fun ρ σ G0 H0 G H Q P E h k=>q ρ σ G0 H0 G H _ _ E h fun vs H' ds G' x rs hq=>⟨by rw[rs.length];exact hq.1,fun p hp=>?_⟩⟩;exact k _ _ (.ow ds) G' (x.trans (.own x.s hp)) ⟨p,vs,rfl,x.h.free hp,x.s.free hp,fq,rs⟩ hq.2
def kY(X:Cx)(f:Value)(o:List D->(R->Prop)->Prop):Prop:=∃r,cb X f r/\∀(G H:Hp) (vs:List V) (ds:List D) (Q:R->Prop) (P:VK),bw G H->bc X.K G vs ds->o ds Q->
 (∀v H' r' G',Ext G H G' H'->cP X.K G' H' H v r'->Q r'->P v H')->r vs H P
def cM(o:List D->(R->Prop)->Prop)(ts:fU):TD:=fun ρ Q=>ts ρ fun ds=>o ds Q
theorem zz{o:List D->(R->Prop)->Prop}{r:List V->Hp->VK->Prop}{t:TA}
  (hr:∀(G H:Hp) (vs:List V) (ds:List D) (Q:R->Prop) (P:VK),bw G H->bc X.K G vs ds->o ds Q->(∀v H' r' G',Ext G H G' H'->cP X.K G' H' H v r'->Q r'->P v H')->r vs H P)
  (q:∀(ρ:Ev) (σ:St) (G0 H0 G H:Hp) (Q:List D->Prop) (P:List V->Hp->Prop),cz X.K G0 H0 ρ σ G H->ts ρ Q->(∀vs H' ds G',Ext G H G' H'->bc X.K G' vs ds->Q ds->P vs H')->t σ H P):y1 X.K (cM o ts) (xG r t):=
 fun ρ σ G0 H0 G H Q P E h k=>q ρ σ G0 H0 G H _ _ E h fun vs H' ds G' x rs hq=>hr G' H' vs ds Q P x.s rs hq fun v H2 r' G2 x2 rr q2=>k v H2 r' G2 (x.trans x2) (rr.dz x.h) q2
theorem fi{id:String}{x:Str}{p:Pos}{o:List D->(R->Prop)->Prop}(hc:kY X (.builtin id) o)(hm:X.mg x=none)(hv:bootBuiltins x=some (.builtin id))(ha:iN X (e::es) ts)(hg:Gl X x:=by rfl)(hn:x≠"__name__":=by decide)(il:(x==("__debug__":Str))=false:=by decide)
  (he:starEach (e::es) X.env=(false,eval e X.env)::starEach es X.env:=by rfl) (dA:(backTo pos (starEach es X.env)).any (·.1)=false:=by rfl):PD X (.Call (.Name x p) (e::es) [] pos) (cM o ts):=by
 obtain⟨r,hr,lE⟩:=hc;obtain⟨t,pp,q⟩:=ha;exact⟨_,wy hr hg hm hv pp hn il he dA,zz lE q⟩
theorem ma{T:String}{x:Str}{p:Pos}{o:List D->(R->Prop)->Prop}(hc:kY X (.type T) o)(hm:X.mg x=none)(hv:bootBuiltins x=some (.type T))(ha:iN X (e::es) ts)(hg:Gl X x:=by rfl)(hn:x≠"__name__":=by decide)(il:(x==("__debug__":Str))=false:=by decide)
  (he:starEach (e::es) X.env=(false,eval e X.env)::starEach es X.env:=by rfl) (dA:(backTo pos (starEach es X.env)).any (·.1)=false:=by rfl):PD X (.Call (.Name x p) (e::es) [] pos) (cM o ts):=by
 obtain⟨r,hr,lE⟩:=hc;obtain⟨t,pp,q⟩:=ha;exact⟨_,wN hr hg hm hv pp hn il he dA,zz lE q⟩
end
end L2
namespace L2
open PySem PySem.Spec PyProof.Rows
theorem ki{σ:St}{i j:Nat}{x:Option V}:(σ.set i x)[j]?=if i=j/\j<σ.length then some x else σ[j]?:=by
 by_cases h:i=j
 ·subst h;by_cases hl:i<σ.length
  ·simp[hl]
  ·simp[hl]
 ·simp[h]
section
variable {K:PySem.W.Frag} {G0 H0 G H G' H':Hp} {ρ:Ev} {σ:St}
theorem cz.put{i:Nat}{v:V}{r:R}(E:cz K G0 H0 ρ σ G H)(x:Ext G H G' H')(rr:cP K G' H' H v r):cz K G0 H0 (ρ.set i r.sl) (σ.set i (some v)) G' H':=by
 have E':=E.ext x;have hl:=E.len;have gs:∀j s,gt (ρ.set i r.sl) j=s->(i=j/\j<ρ.length/\s=r.sl)\/(¬(i=j/\j<ρ.length)/\gt ρ j=s):=fun j s e=>by
  rw[qM] at e;by_cases h:i=j/\j<ρ.length
  ·rw[if_pos h] at e;exact .inl ⟨h.1,h.2,e.symm⟩
  ·rw[if_neg h] at e;exact .inr ⟨h,e⟩
 refine⟨E'.e,by simp[E.len],fun j d h=>?_,fun j ds h=>?_,fun j k ds es lH h1 h2=>?_,?_⟩
 ·rcases gs j _ h with⟨h1,h2,h3⟩ | ⟨h1,h2⟩
  ·cases r with
   | ow=>cases h3
   | ov=>cases h3
   | fz d'=>
    cases h3;exact⟨v,by rw[ki,if_pos ⟨h1,by omega⟩],rr⟩
  ·obtain⟨u,hu,ru⟩:=E'.fz j d h2;exact⟨u,by rw[ki,if_neg (by rw[hl];exact h1)];exact hu,ru⟩
 ·rcases gs j _ h with⟨h1,h2,h3⟩ | ⟨h1,h2⟩
  ·cases r with
   | fz=>cases h3
   | ov=>cases h3
   | ow qt=>
    cases h3;obtain⟨p,xs,rfl,a1,a2,a3,a4⟩:=rr;exact⟨p,xs,by rw[ki,if_pos ⟨h1,by omega⟩],a3,a2,E.e.h.free a1,a4⟩
  ·obtain⟨p,xs,b1,b2,b3,b4,b5⟩:=E'.ow j ds h2;exact⟨p,xs,by rw[ki,if_neg (by rw[hl];exact h1)];exact b1,b2,b3,b4,b5⟩
 ·have old:∀{j:Nat} {ds:List D},gt ρ j=.ow ds->∀es,r=.ow es->σ[j]?≠some (some v):=fun{j ds} h es e z=>by
   subst e;obtain⟨p,xs,rfl,a1,a2,a3,a4⟩:=rr;obtain⟨p',kv,b1,b2,b3,b4,b5⟩:=E.ow j ds h;rw[b1] at z;cases z;rw[a1] at b2;cases b2
  rcases gs j _ h1 with⟨c1,c2,c3⟩ | ⟨c1,c2⟩
  ·rcases gs k _ h2 with⟨d1,d2,d3⟩ | ⟨d1,d2⟩
   ·exact absurd (c1.symm.trans d1) lH
   ·rw[ki,if_pos ⟨c1,by omega⟩,ki,if_neg (by rw[hl];exact d1)];cases r with
    | fz=>cases c3
    | ov=>cases c3
    | ow bJ=>exact fun z=>old d2 bJ rfl z.symm
  ·rcases gs k _ h2 with⟨d1,d2,d3⟩ | ⟨d1,d2⟩
   ·rw[ki,if_neg (by rw[hl];exact c1),ki,if_pos ⟨d1,by omega⟩];cases r with
    | fz=>cases d3
    | ov=>cases d3
    | ow bJ=>exact old c2 bJ rfl
   ·rw[ki,if_neg (by rw[hl];exact c1),ki,if_neg (by rw[hl];exact d1)];exact E.dj j k ds es lH c2 d2
 ·obtain⟨own,o1,o2⟩:=E.on;have B0:∀j,¬(i=j/\j<ρ.length)->(σ.set i (some v))[j]?=σ[j]?:=fun j h=>by rw[ki,if_neg (by rw[hl];exact h)]
  have gen:∀L:List Addr,(∀q∈L,H q=none)->(∀j ds p,i=j->j<ρ.length->r.sl=.ow ds->v=.ref p->p∈L)->
    (∀j o,i=j->j<ρ.length->r.sl=.ov o->∃p fp,v=.ref p/\(p::fp).Nodup/\gD K G' H' p fp o/\∀q∈p::fp,G' q=none/\q∈L)->
    ∃own:Addr->Option Nat,(∀j ds p,gt (ρ.set i r.sl) j=.ow ds->(σ.set i (some v))[j]?=some (some (.ref p))->own p=some j)/\∀j o,gt (ρ.set i r.sl) j=.ov o->∃p fp,(σ.set i (some v))[j]?=some (some (.ref p))/\(p::fp).Nodup/\gD K G' H' p fp o/\∀q∈p::fp,G' q=none/\H0 q=none/\own q=some j:=by
   intro L hL hw ho;refine⟨fun q=>if q∈L then some i else own q,fun j ds p h hp=>?_,fun j o h=>?_⟩
   ·rcases gs j _ h with⟨h1,h2,h3⟩ | ⟨h1,h2⟩
    ·rw[ki,if_pos ⟨h1,by omega⟩] at hp;have hv:v=.ref p:=by injection hp with hp;injection hp
     dsimp only;rw[if_pos (hw j ds p h1 h2 h3.symm hv),h1]
    ·rw[B0 j h1] at hp;obtain⟨p',kv,b1,b2,_⟩:=E.ow j ds h2;have cH:p∉L:=fun z=>by
      rw[hp] at b1;cases b1;rw[hL p z] at b2;cases b2
     dsimp only;rw[if_neg cH];exact o1 j ds p h2 hp
   ·rcases gs j _ h with⟨h1,h2,h3⟩ | ⟨h1,h2⟩
    ·obtain⟨p,fp,rfl,c1,c2,c3⟩:=ho j o h1 h2 h3.symm;refine⟨p,fp,by rw[ki,if_pos ⟨h1,by omega⟩],c1,c2,fun q hq=>⟨(c3 q hq).1,E.e.h.free (hL q (c3 q hq).2),?_⟩⟩;dsimp only;rw[if_pos (c3 q hq).2,h1]
    ·obtain⟨p,fp,b1,b2,b3,b4⟩:=o2 j o h2;refine⟨p,fp,by rw[B0 j h1];exact b1,b2,b3.mono x.g fun q _ u e=>x.h q u e,fun q hq=>⟨x.n q (b4 q hq).1 (b3.here q hq),(b4 q hq).2.1,?_⟩⟩;dsimp only;rw[if_neg (fun z=>b3.here q hq (hL q z))];exact(b4 q hq).2.2
  cases r with
  | fz d=>exact gen [] (fun q hq=>by cases hq) (fun j ds p _ _ e=>by cases e) (fun j o _ _ e=>by cases e)
  | ow qt=>
   obtain⟨p,xs,rfl,a1,a2,a3,a4⟩:=rr;refine gen [p] (fun q hq=>?_) (fun j ds p' _ _ e e2=>?_) (fun j o _ _ e=>by cases e)
   ·simp only[aD] at hq;subst hq;exact a1
   ·cases e2;simp
  | ov o'=>
   obtain⟨p,fp,rfl,a1,a2,a3⟩:=rr;refine gen (p::fp) (fun q hq=>(a3 q hq).1) (fun j ds p' _ _ e=>by cases e) (fun j o _ _ e=>?_);cases e;exact⟨p,fp,rfl,a1,a2,fun q hq=>⟨(a3 q hq).2,hq⟩⟩
noncomputable def hX(i:Nat)(ρ:Ev):Ev:=match gt ρ i with
 | .ow ds=>ρ.set i (.fz (.lst ds))
 | .ov o=>ρ.set i (.fz o.val)
 | _=>ρ
theorem vE{ρ:Ev}{i:Nat}{s:Sl}(h:gt ρ i=s)(hs:s≠.un):i<ρ.length:=by
 induction ρ generalizing i with
 | nil=>simp[gt] at h;exact absurd h.symm hs
 | cons a r ih=>
  cases i with
  | zero=>simp
  | succ i=>simp only[gt] at h;have:=ih h;simp;omega
theorem cp.BZ{K:PySem.W.Frag}{G H:Hp}:∀{qs:List Addr} {dv:List (List D)},cp K G H qs dv->∀q∈qs,∃zs,H q=some (.lst zs)
 | [],[],_,q,hq=>by cases hq
 | p::qs,ds::dv,h,q,hq=>by
  simp only[cp] at h;rcases ai.mp hq with rfl | hq
  ·exact⟨_,h.1.choose_spec.1⟩
  ·exact cp.BZ h.2 q hq
 | [],_::_,h,_,_=>by simp only[cp] at h
 | _::_,[],h,_,_=>by simp only[cp] at h
theorem cz.lO(i:Nat)(E:cz K G0 H0 ρ σ G H):∃L:List Addr,(∀q∈L,G q=none)/\cz K G0 H0 (hX i ρ) σ (kf G H L) H/\(((∀o,gt ρ i=.ov o->(∃bS,o=.dc bS)\/∃dv,o=.ll dv)->∀q∈L,H q≠none/\∀xs,¬Rd H q (.tup xs)))/\∀o p,gt ρ i=.ov o->σ[i]?=some (some (.ref p))->p∈L:=by
 unfold hX;split
 ·rename_i ds hg;obtain⟨p,xs,h1,h2,h3,h4,h5⟩:=E.ow i ds hg;have dg:i<ρ.length:=vE hg (by simp);have hs:bw G (upd G p (.lst xs)):=nS h3;have gs:∀j s,gt (ρ.set i (.fz (.lst ds))) j=s->(i=j/\s=.fz (.lst ds))\/(i≠j/\gt ρ j=s):=fun j s e=>by
   rw[qM] at e;by_cases h:i=j
   ·subst h;rw[if_pos ⟨rfl,dg⟩] at e;exact .inl ⟨rfl,e.symm⟩
   ·rw[if_neg (fun z=>h z.1)] at e;exact .inr ⟨h,e⟩
  have ep:kf G H [p]=upd G p (.lst xs):=by
   funext a
   by_cases ha:a=p
   ·subst ha;rw[fq,md (by simp)];exact h2
   ·rw[cA ha,la (by simpa using ha)]
  refine⟨[p],fun q hq=>?_,?_,fun _ q hq=>by
   simp only[aD] at hq;rw[hq]
   exact⟨(by rw[h2];exact nofun),fun kv e=>by rcases e with e | ⟨_,e⟩<;>(rw[h2] at e;cases e)⟩,fun o p z=>by rw[hg] at z;cases z⟩
  ·simp only[aD] at hq;subst hq;exact h3
  rw[ep];refine⟨⟨E.e.g.trans hs,E.e.h,fun b o e=>?_,fun q q1 q2=>?_⟩,by simp[E.len],fun j d h=>?_,fun j es h=>?_,fun j k es fs lH a1 a2=>?_,?_⟩
  ·by_cases hb:b=p
   ·subst hb;rw[fq] at e;rw[h2];exact e
   ·rw[cA hb] at e;exact E.e.s b o e
  ·rw[cA (fun z=>q2 (by rw[z];exact h4))];exact E.e.n q q1 q2
  ·rcases gs j _ h with⟨e,e2⟩ | ⟨e,e2⟩
   ·subst e;cases e2;exact⟨_,h1,by simp only[Rep];exact⟨p,xs,rfl,gC.of fq,h5.mono hs⟩⟩
   ·obtain⟨u,u1,u2⟩:=E.fz j d e2;exact⟨u,u1,u2.mono hs⟩
  ·rcases gs j _ h with⟨e,e2⟩ | ⟨e,e2⟩
   ·cases e2
   ·obtain⟨p',kv,b1,b2,b3,b4,b5⟩:=E.ow j es e2;have cH:p'≠p:=fun z=>by
     subst z;exact E.dj i j ds es e hg e2 (by rw[h1,b1])
    exact⟨p',kv,b1,b2,by rw[cA cH];exact b3,b4,b5.mono hs⟩
  ·rcases gs j _ a1 with⟨_,e2⟩ | ⟨e,e2⟩
   ·cases e2
   ·rcases gs k _ a2 with⟨_,e4⟩ | ⟨e3,e4⟩
    ·cases e4
    ·exact E.dj j k es fs lH e2 e4
  ·obtain⟨own,o1,o2⟩:=E.on;refine⟨own,fun j es p' h hp=>?_,fun j o h=>?_⟩
   ·rcases gs j _ h with⟨_,e2⟩ | ⟨_,e2⟩
    ·cases e2
    ·exact o1 j es p' e2 hp
   ·rcases gs j _ h with⟨_,e2⟩ | ⟨e,e2⟩
    ·cases e2
    ·obtain⟨p',fp,b1,b2,b3,b4⟩:=o2 j o e2;refine⟨p',fp,b1,b2,b3.mono hs fun q _ u e=>e,fun q hq=>⟨?_,(b4 q hq).2⟩⟩;rw[cA fun z=>?_]
     ·exact(b4 q hq).1
     ·have z1:=(b4 q hq).2.2;rw[z,o1 i ds p hg h1] at z1;injection z1 with z1
      exact e z1
 ·rename_i o hg;obtain⟨own,o1,o2⟩:=E.on;obtain⟨p,fp,h1,h2,h3,h4⟩:=o2 i o hg;have dg:i<ρ.length:=vE hg (by simp);have hn:∀q∈p::fp,G q=none:=fun q hq=>(h4 q hq).1
  have hs:bw G (kf G H (p::fp)):=qZ hn;have gs:∀j s,gt (ρ.set i (.fz o.val)) j=s->(i=j/\s=.fz o.val)\/(i≠j/\gt ρ j=s):=fun j s e=>by
   rw[qM] at e;by_cases h:i=j
   ·subst h;rw[if_pos ⟨rfl,dg⟩] at e;exact .inl ⟨rfl,e.symm⟩
   ·rw[if_neg (fun z=>h z.1)] at e;exact .inr ⟨h,e⟩
  suffices sR:cz K G0 H0 (ρ.set i (.fz o.val)) σ (kf G H (p::fp)) H from⟨p::fp,hn,sR,fun hd q hq=>by
   rcases hd o hg with⟨bS,rfl⟩ | ⟨dv,rfl⟩
   ·obtain⟨rfl,ks,ep,h5,_⟩:=h3;simp only[aD] at hq;rw[hq];exact⟨(by rw[h5];exact nofun),fun kv e=>by rcases e with e | ⟨_,e⟩<;>(rw[h5] at e;cases e)⟩
   ·obtain⟨zs,h5⟩:∃zs,H q=some (.lst zs):=by
     rcases ai.mp hq with rfl | hq
     ·exact⟨_,h3.1⟩
     ·exact cp.BZ h3.2 q hq
    exact⟨(by rw[h5];exact nofun),fun kv e=>by rcases e with e | ⟨_,e⟩<;>(rw[h5] at e;cases e)⟩,fun o' p' _ e=>by rw[h1] at e;cases e;simp⟩
  refine⟨⟨E.e.g.trans hs,E.e.h,fun b u e=>?_,fun q q1 q2=>?_⟩,by simp[E.len],fun j d h=>?_,fun j es h=>?_,fun j k es fs lH a1 a2=>?_,own,fun j es p' h hp=>?_,fun j o' h=>?_⟩
  ·by_cases hb:b∈p::fp
   ·rw[md hb] at e;exact e
   ·rw[la hb] at e;exact E.e.s b u e
  ·rw[la (fun z=>q2 (h4 q z).2.1)];exact E.e.n q q1 q2
  ·rcases gs j _ h with⟨e,e2⟩ | ⟨e,e2⟩
   ·subst e;cases e2;exact⟨_,h1,h3.freeze hn⟩
   ·obtain⟨u,u1,u2⟩:=E.fz j d e2;exact⟨u,u1,u2.mono hs⟩
  ·rcases gs j _ h with⟨e,e2⟩ | ⟨e,e2⟩
   ·cases e2
   ·obtain⟨p',kv,b1,b2,b3,b4,b5⟩:=E.ow j es e2;refine⟨p',kv,b1,b2,?_,b4,b5.mono hs⟩;rw[la fun z=>?_]
    ·exact b3
    ·have z1:=(h4 p' z).2.2;rw[o1 j es p' e2 b1] at z1;injection z1 with z1
     exact e z1.symm
  ·rcases gs j _ a1 with⟨_,e2⟩ | ⟨e,e2⟩
   ·cases e2
   ·rcases gs k _ a2 with⟨_,e4⟩ | ⟨e3,e4⟩
    ·cases e4
    ·exact E.dj j k es fs lH e2 e4
  ·rcases gs j _ h with⟨_,e2⟩ | ⟨_,e2⟩
   ·cases e2
   ·exact o1 j es p' e2 hp
  ·rcases gs j _ h with⟨_,e2⟩ | ⟨e,e2⟩
   ·cases e2
   ·obtain⟨p',LX,b1,b2,b3,b4⟩:=o2 j o' e2;refine⟨p',LX,b1,b2,b3.mono hs fun q _ u e=>e,fun q hq=>⟨?_,(b4 q hq).2⟩⟩;rw[la fun z=>?_]
    ·exact(b4 q hq).1
    ·have z1:=(b4 q hq).2.2;rw[(h4 q z).2.2] at z1;injection z1 with z1
     exact e z1
 ·rename_i Mn KI;have ep:kf G H []=G:=by funext a;exact la (by simp)
  exact⟨[],fun q hq=>(by cases hq),by rw[ep];exact E,fun _ q hq=>(by cases hq),fun o p z=>(KI o z).elim⟩
theorem cz.j5(i:Nat)(E:cz K G0 H0 ρ σ G H):∃L:List Addr,(∀q∈L,G q=none)/\cz K G0 H0 (hX i ρ) σ (kf G H L) H/\((∀o,gt ρ i=.ov o->(∃bS,o=.dc bS)\/∃dv,o=.ll dv)->∀q∈L,H q≠none/\∀xs,¬Rd H q (.tup xs)):=
 let⟨L,a,b,c,_⟩:=E.lO i
 ⟨L,a,b,c⟩
theorem cz.freeze(i:Nat)(E:cz K G0 H0 ρ σ G H):∃G',cz K G0 H0 (hX i ρ) σ G' H/\bw G G':=
 let⟨L,hL,E',_⟩:=E.j5 i
 ⟨_,E',qZ hL⟩
theorem cz.change{i:Nat}{ds qt:List D}{p:Addr}{kv:List V}(E:cz K G0 H0 ρ σ G H)(hg:gt ρ i=.ow ds)(h1:σ[i]?=some (some (.ref p)))(hr:bc K G kv qt) :
  cz K G0 H0 (ρ.set i (.ow qt)) σ G (upd H p (.lst kv)):=by
 obtain⟨p',Mh,b1,b2,b3,b4,b5⟩:=E.ow i ds hg;rw[h1] at b1;cases b1;have dg:i<ρ.length:=vE hg (by simp);have gs:∀j s,gt (ρ.set i (.ow qt)) j=s->(i=j/\s=.ow qt)\/(i≠j/\gt ρ j=s):=fun j s e=>by
  rw[qM] at e;by_cases h:i=j
  ·subst h;rw[if_pos ⟨rfl,dg⟩] at e;exact .inl ⟨rfl,e.symm⟩
  ·rw[if_neg (fun z=>h z.1)] at e;exact .inr ⟨h,e⟩
 have hG:bw G (upd H p (.lst kv)):=fun b o e=>by rw[cA (gO e b3)];exact E.e.s b o e
 refine⟨⟨E.e.g,fun b o e=>by rw[cA (gO e b4)];exact E.e.h b o e,hG,E.e.n⟩,by simp[E.len],fun j d h=>?_,fun j es h=>?_,fun j k es fs lH a1 a2=>?_,?_⟩
 ·rcases gs j _ h with⟨_,e2⟩ | ⟨e,e2⟩
  ·cases e2
  ·exact E.fz j d e2
 ·rcases gs j _ h with⟨e,e2⟩ | ⟨e,e2⟩
  ·subst e;cases e2;exact⟨p,kv,h1,fq,b3,b4,hr⟩
  ·obtain⟨p',J8,c1,c2,c3,c4,c5⟩:=E.ow j es e2;have cH:p'≠p:=fun z=>by
    subst z;exact E.dj i j ds es e hg e2 (by rw[h1,c1])
   exact⟨p',J8,c1,by rw[cA cH];exact c2,c3,c4,c5⟩
 ·rcases gs j _ a1 with⟨e,e2⟩ | ⟨e,e2⟩
  ·subst e;rcases gs k _ a2 with⟨e3,e4⟩ | ⟨e3,e4⟩
   ·exact absurd e3 lH
   ·exact E.dj i k ds fs lH hg e4
  ·rcases gs k _ a2 with⟨e3,e4⟩ | ⟨e3,e4⟩
   ·subst e3;exact E.dj j i es ds lH e2 hg
   ·exact E.dj j k es fs lH e2 e4
 ·obtain⟨own,o1,o2⟩:=E.on;refine⟨own,fun j es p' h hp=>?_,fun j o h=>?_⟩
  ·rcases gs j _ h with⟨e,e2⟩ | ⟨_,e2⟩
   ·subst e;exact o1 i ds p' hg hp
   ·exact o1 j es p' e2 hp
  ·rcases gs j _ h with⟨_,e2⟩ | ⟨e,e2⟩
   ·cases e2
   ·obtain⟨p',fp,c1,c2,c3,c4⟩:=o2 j o e2;refine⟨p',fp,c1,c2,c3.mono (bw.refl _) fun q hq u e3=>?_,c4⟩;rw[cA fun z=>?_]
    ·exact e3
    ·have z1:=(c4 q hq).2.2;rw[z,o1 i ds p hg h1] at z1;injection z1 with z1
     exact e z1
theorem cz.weak{ρ':Ev}(E:cz K G0 H0 ρ σ G H)(hl:ρ'.length=ρ.length)(w:∀i,gt ρ' i=.un\/gt ρ' i=gt ρ i):cz K G0 H0 ρ' σ G H:=by
 have g:∀i s,gt ρ' i=s->s≠.un->gt ρ i=s:=fun i s e n=>by
  rcases w i with h | h
  ·exact absurd (e.symm.trans h) n
  ·rw[<-h];exact e
 exact⟨E.e,by rw[hl];exact E.len,fun i d h=>E.fz i d (g i _ h (by simp)),fun i d h=>E.ow i d (g i _ h (by simp)),fun i j ds es yC h1 h2=>E.dj i j ds es yC (g i _ h1 (by simp)) (g j _ h2 (by simp)),let⟨own,o1,o2⟩:=E.on;⟨own,fun i ds p h=>o1 i ds p (g i _ h (by simp)),fun i o h=>o2 i o (g i _ h (by simp))⟩⟩
end
section
variable {X:Cx} {pos:Pos} {e:Expr} {te:TD}
def bH(t u:TX):TX:=fun D ρ=>t { D with nx:=u D } ρ
def eh:TX:=fun D ρ=>D.nx ρ
theorem eV:j8 X [] eh:=⟨_,Ai,fun ρ σ G0 H0 G H D E k h g=>g.nx ρ σ G H (bw.refl _) k h⟩
theorem bK{st:Stmt}{mi:List Stmt}{t u:TX}(h1:PX X st t)(h2:j8 X mi u):j8 X (st::mi) (bH t u):=by
 obtain⟨t1,p1,q1⟩:=h1;obtain⟨t2,p2,q2⟩:=h2;refine⟨_,AS p1 p2,fun ρ σ G0 H0 G H D E k h g=>q1 ρ σ G0 H0 G H _ _ k h ⟨fun ρ' bR G' H' s' k' h'=>q2 ρ' bR G0 H0 G' H' D E k' h' (g.shift s'),g.rt,g.bk,g.ct⟩⟩
theorem bY{st:Stmt}{t:TX}(h1:PX X st t):j8 X [st] t:=by
 obtain⟨t1,p1,q1⟩:=h1;exact⟨_,Ff p1,q1⟩
theorem uj(i:Nat){mi:List Stmt}{t:TX}(h:j8 X mi t):j8 X mi (fun D ρ=>t D (hX i ρ)):=by
 obtain⟨t1,p1,q1⟩:=h;refine⟨_,p1,fun ρ σ G0 H0 G H D E k h g=>?_⟩;obtain⟨G',k',s'⟩:=k.freeze i;exact q1 _ σ G0 H0 G' H D E k' h (g.shift s')
def dr(te:TD):TX:=fun D ρ=>te ρ D.rt
theorem dF(h:PD X e te):PX X (.Return (some e) pos) (dr te):=by
 obtain⟨t,p,q⟩:=h;exact⟨_,zY p,fun ρ σ G0 H0 G H D E k h g=>q ρ σ G0 H0 G H _ _ k h fun v H' r G' x rr hq=>g.rt v H' r G' (k.e.trans x) (rr.dz k.e.h) hq⟩
def nJ(i:Nat):TX:=fun D ρ=>match gt ρ i with
 | .ow ds=>D.rt (.ow ds)
 | _=>False
theorem ui(i:Nat){x:Str}{p':Pos}(hN:X.N[i]?=some x:=by rfl)(hv:lT X.env.scope x:=by first | exact Or.inl rfl | exact Or.inr (Or.inl rfl) | exact Or.inr (Or.inr rfl))(hd:(x==("__debug__":Str))=false:=by decide)
  (fL:(x==("__classdict__":Str))=false:=by decide):PX X (.Return (some (.Name x p')) pos) (nJ i):=by
 refine⟨_,zY (nP hN hv hd fL),fun ρ σ G0 H0 G H D E k h g=>?_⟩;unfold nJ at h;split at h
 ·rename_i ds hg;obtain⟨p,xs,h1,h2,h3,h4,h5⟩:=k.ow i ds hg;exact⟨_,h1,g.rt _ H (.ow ds) G k.e ⟨p,xs,rfl,h4,h3,h2,h5⟩ h⟩
 ·exact h.elim
def dU(c:gK)(t u:TX):TX:=fun D ρ=>c ρ fun b=>if b=true then t D ρ else u D ρ
theorem eQ{c:Expr}{a b:List Stmt}{tc:gK}{t u:TX}(hc:PB X c tc)(ha:j8 X a t)(hb:j8 X b u):PX X (.If c a b pos) (dU tc t u):=by
 obtain⟨t0,p0,q0⟩:=hc;obtain⟨t1,p1,q1⟩:=ha;obtain⟨t2,p2,q2⟩:=hb;refine⟨_,DU p0 p1 p2,fun ρ σ G0 H0 G H D E k h g=>q0 ρ σ G0 H0 G H _ _ k h fun b H' G' x hq=>?_⟩;cases b with
 | true=>rw[if_pos rfl] at hq ⊢;exact q1 ρ σ G0 H0 G' H' D E (k.ext x) hq (g.shift x.g)
 | false=>rw[if_neg aG] at hq ⊢;exact q2 ρ σ G0 H0 G' H' D E (k.ext x) hq (g.shift x.g)
def kb(i:Nat)(te:TD):TX:=fun D ρ=>te ρ fun r=>D.nx (ρ.set i r.sl)
theorem nN(i:Nat){x:Str}{pos':Pos}(he:PD X e te)(hN:X.N.Nodup:=by assumption)(hi:X.N[i]?=some x:=by rfl)(hx:Loc X.env.scope x:=by first | exact Or.inl rfl | exact Or.inr rfl)(hs:swapsWith e (some (.Name x pos')) pos.line X.env=pure false:=by rfl)(hf:X.fn x=true\/X.env.scope.names.lookup x=some .local:=by first | exact .inl rfl | exact .inr rfl | assumption) :
  PX X (.Assign [.Name x pos'] e pos) (kb i te):=by
 obtain⟨t,p,q⟩:=he;exact⟨_,zX hN hi hx p hs hf,fun ρ σ G0 H0 G H D E k h g=>q ρ σ G0 H0 G H _ _ k h fun v H' r G' x rr hq=>g.nx _ _ G' H' x.g (k.put x rr) hq⟩
def cv(i:Nat)(te:TD):TX:=fun D ρ=>te ρ fun r=>D.nx (ρ.set i (.fz r.val))
theorem cZ(i:Nat){x:Str}{pos':Pos}(he:PD X e te)(hN:X.N.Nodup:=by assumption)(hi:X.N[i]?=some x:=by rfl)(hx:Loc X.env.scope x:=by first | exact Or.inl rfl | exact Or.inr rfl)(hs:swapsWith e (some (.Name x pos')) pos.line X.env=pure false:=by rfl)(hf:X.fn x=true\/X.env.scope.names.lookup x=some .local:=by first | exact .inl rfl | exact .inr rfl | assumption) :
  PX X (.Assign [.Name x pos'] e pos) (cv i te):=by
 obtain⟨t,p,q⟩:=he;refine⟨_,zX hN hi hx p hs hf,fun ρ σ G0 H0 G H D E k h g=>q ρ σ G0 H0 G H _ _ k h fun v H' r G' x rr hq=>?_⟩;obtain⟨G2,x2,rv,_⟩:=rr.freeze x;exact g.nx _ _ G2 H' x2.g (k.put x2 (r:=.fz r.val) rv) hq
def iE(i:Nat)(te:TD):TX:=fun D ρ=>match gt ρ i with
 | .ow ds=>te ρ fun r=>ds.length<sizeLine/\D.nx (ρ.set i (.ow (ds++[r.val])))
 | _=>False
theorem kN(i:Nat){x:Str}{p1 p2 pos':Pos}(he:PD X e te)(hN:X.N[i]?=some x:=by rfl)(hv:lT X.env.scope x:=by first | exact Or.inl rfl | exact Or.inr (Or.inl rfl) | exact Or.inr (Or.inr rfl))(hd:(x==("__debug__":Str))=false:=by decide)
  (fL:(x==("__classdict__":Str))=false:=by decide) (gJ:starEach [e] X.env=(false,eval e X.env)::starEach [] X.env:=by rfl)
  (hb:∀{ta:TE} {t:TA},PE X (.Name x p1) ta->PA X [e] t->PE X (.Call (.Attribute (.Name x p1) "append" p2) [e] [] pos') (xH X.K "list" As ta t):=by intro ta t h1 h2;exact vG PySem.F.plainAttrs_list PySem.F.slot_list_append PySem.F.type_list_append A6 h1 h2) :
  PX X (.Expr (.Call (.Attribute (.Name x p1) "append" p2) [e] [] pos') pos) (iE i te):=by
 obtain⟨t,p,q⟩:=he;refine⟨_,vY (hb (nP hN hv hd fL) (mQ p nO gJ)),fun ρ σ G0 H0 G H D E k h g=>?_⟩;unfold iE at h;split at h
 ·rename_i ds hg;obtain⟨a,xs,h1,h2,h3,h4,h5⟩:=k.ow i ds hg;refine⟨_,h1,.inl ⟨rfl,xs,cN.of h2⟩,?_⟩;refine q ρ σ G0 H0 G H _ _ k h fun v H' r G' x1 rr hq=>?_
  obtain⟨G2,x2,rv,_⟩:=rr.freeze x1;have k2:=k.ext x2;refine⟨a,xs,v,rfl,rfl,x2.h _ _ h2,by rw[h5.length];exact hq.1,?_⟩;exact g.nx _ _ G2 _ x2.g (k2.change hg h1 ((h5.mono x2.g).append (bc.cons rv bc.nil))) hq.2
 ·exact h.elim
end
end L2
namespace L2
open PySem PySem.Spec PyProof.Rows
section
variable {X:Cx} {pos:Pos} {tg:Expr}
noncomputable abbrev fT:=D->Ev->(Ev->Prop)->Prop
noncomputable abbrev ka:=List D->Ev->(Ev->Prop)->Prop
def nA(X:Cx)(tg:Expr)(g:fT):Prop:=∃gg,PG X tg gg/\∀(ρ:Ev) (σ:St) (G0 H0 G H:Hp) (d:D) (v:V) (Q:Ev->Prop) (P:St->Hp->Prop),cz X.K G0 H0 ρ σ G H->Rep X.K G v d->g d ρ Q->
 (∀ρ' bR G' H',cz X.K G0 H0 ρ' bR G' H'->Ext G H G' H'->Q ρ'->P bR H')->gg v σ H P
def qE(X:Cx)(Kg:List Expr)(g:ka):Prop:=∃gg,qw X Kg gg/\∀(ρ:Ev) (σ:St) (G0 H0 G H:Hp) (ds:List D) (vs:List V) (Q:Ev->Prop) (P:St->Hp->Prop),cz X.K G0 H0 ρ σ G H->bc X.K G vs ds->g ds ρ Q->
 (∀ρ' bR G' H',cz X.K G0 H0 ρ' bR G' H'->Ext G H G' H'->Q ρ'->P bR H')->gg vs σ H P
def bW(i:Nat):fT:=fun d ρ Q=>Q (ρ.set i (.fz d))
theorem cy(i:Nat){x:Str}(hN:X.N.Nodup:=by assumption)(hi:X.N[i]?=some x:=by rfl)(hx:Loc X.env.scope x:=by first | exact Or.inl rfl | exact Or.inr rfl)(hf:X.fn x=true\/X.env.scope.names.lookup x=some .local:=by first | exact .inl rfl | exact .inr rfl | assumption):nA X (.Name x pos) (bW i):=
 ⟨_,Fe hN hi hx hf,fun ρ σ G0 H0 G H d v Q P E r h k=>k _ _ G H (E.put (.refl E.e.s) (r:=.fz d) r) (.refl E.e.s) h⟩
noncomputable def gh:ka:=fun ds ρ Q=>match ds with
 | []=>Q ρ
 | _=>False
noncomputable def de(t:fT)(u:ka):ka:=fun ds ρ Q=>match ds with
 | d::r=>t d ρ fun ρ'=>u r ρ' Q
 | []=>False
theorem ku:qE X [] gh:=by
 refine⟨_,Fd,fun ρ σ G0 H0 G H ds vs Q P E r h k=>?_⟩;unfold gh at h;split at h
 ·cases vs with
  | nil=>exact⟨rfl,k _ _ G H E (.refl E.e.s) h⟩
  | cons=>simp only[bc] at r
 ·exact h.elim
theorem fj{e:Expr}{es:List Expr}{t:fT}{u:ka}(h1:nA X e t)(h2:qE X es u)(hs:(assignEach (e::es) X.env).map (·.2)=assign e X.env::(assignEach es X.env).map (·.2):=by rfl):qE X (e::es) (de t u):=by
 obtain⟨t1,p1,q1⟩:=h1;obtain⟨t2,p2,q2⟩:=h2;refine⟨_,Hj p1 p2 hs,fun ρ σ G0 H0 G H ds vs Q P E r h k=>?_⟩;unfold de at h;split at h
 ·cases vs with
  | nil=>simp only[bc] at r
  | cons v vs=>
   simp only[bc] at r;refine⟨v,vs,rfl,q1 ρ σ G0 H0 G H _ v _ _ E r.1 h fun ρ' bR G' H' E' x hq=>?_⟩;exact q2 ρ' bR G0 H0 G' H' _ vs Q P E' (r.2.mono x.g) hq fun dw jO G2 H2 E2 x2 j1=>k dw jO G2 H2 E2 (x.trans x2) j1
 ·exact h.elim
def g6(n:Nat)(t:ka):fT:=fun d ρ Q=>match d with
 | .tup ds=>ds.length=n/\t ds ρ Q
 | _=>False
theorem kP{es:List Expr}{k:Nat}{t:ka}{n:Nat}(hc:X.calm=true)(h:qE X es t)(hn:(assignEach es X.env).length=n:=by rfl)(gJ:(assignEach es X.env).findIdx? (·.1)=none:=by rfl):nA X (.Tuple es k pos) (g6 n t):=by
 obtain⟨t1,p1,q1⟩:=h;refine⟨_,EJ hc p1 hn gJ,fun ρ σ G0 H0 G H d v Q P E r h k=>?_⟩;unfold g6 at h;split at h
 ·simp only[Rep] at r;obtain⟨a,xs,rfl,hq,rs⟩:=r;exact⟨a,xs,rfl,E.e.s.iY hq,by rw[rs.length];exact h.1,q1 ρ σ G0 H0 G H _ xs Q P E rs h.2 k⟩
 ·exact h.elim
def qD(te:TD)(g:fT):TX:=fun D ρ=>te ρ fun r=>g r.val ρ D.nx
theorem vQ{e:Expr}{te:TD}{g:fT}(he:PD X e te)(hg:nA X tg g)(hs:swapsWithSole [tg] e pos.line X.env=pure false:=by rfl)(hw:swappedStores [tg] e X.env=pure none:=by rfl)(h1:(assignEach [tg] X.env).map (·.2)=[assign tg X.env]:=by rfl):PX X (.Assign [tg] e pos) (qD te g):=by
 obtain⟨t,p,q⟩:=he;obtain⟨t2,p2,q2⟩:=hg;refine⟨_,EI p p2 hs hw h1,fun ρ σ G0 H0 G H D E k h g=>q ρ σ G0 H0 G H _ _ k h fun v H' r G' x rr hq=>?_⟩;obtain⟨G2,x2,rv,_⟩:=rr.freeze x;exact q2 ρ σ G0 H0 G2 H' _ v _ _ (k.ext x2) rv hq fun ρ' bR G' H' E' x' m9=>g.nx ρ' bR G' H' (x2.g.trans x'.g) E' m9
def nH(K:PySem.W.Frag)(J:It)(G:Hp)(ds:List D):Prop:=
 (∀i d G' H',ds[i]?=some d->bw G G'->bw G' H'->J.go i H'/\∀v H2,J.uH i H' v H2->∃G2,Ext G' H' G2 H2/\Rep K G2 v d)/\∀G' H',bw G G'->bw G' H'->J.stop ds.length H'
noncomputable abbrev jc:=Ev->(List D->Prop)->Prop
def PId(X:Cx)(tg iter:Expr)(wi:jc):Prop:=∃ww,PI X tg iter ww/\∀(ρ:Ev) (σ:St) (G0 H0 G H:Hp) (Q:List D->Prop) (P:It->Hp->Prop),cz X.K G0 H0 ρ σ G H->wi ρ Q->
 (∀J H' ds G',Ext G H G' H'->nH X.K J G' ds->Q ds->P J H')->ww σ H P
def vP(d:D)(Q:List D->Prop):Prop:=match d with
 | .lst ds=>Q ds
 | .tup ds=>Q ds
 | .str z=>Q (z.cps.toList.map fun c=>.str ⟨#[c]⟩)
 | _=>False
def fh(te:TD):jc:=fun ρ Q=>te ρ fun r=>vP r.val Q
theorem HI{K:PySem.W.Frag}{G:Hp}{a:Addr}{xs:List V}{ds:List D}(h:gC K G a xs)(r:bc K G xs ds):nH K (y9 K a) G ds:=by
 refine⟨fun i d G' H' hd s1 s2=>?_,fun G' H' s1 s2=>⟨xs,(s2.c9 (s1.c9 h)).sq,by rw[r.length];exact aq _⟩⟩;obtain⟨v,hv,rv⟩:=r.get hd;have hs:cN K H' a xs:=(s2.c9 (s1.c9 h)).sq;refine⟨⟨xs,v,hs,hv⟩,fun u H2 hy=>?_⟩;obtain⟨e,y⟩:=hy;subst e;have:=y xs hs;rw[hv] at this;cases this;exact⟨G',.refl s2,rv.mono s1⟩
theorem FV{K:PySem.W.Frag}{G:Hp}{a:Addr}{xs:List V}{ds:List D}(h:da K G a xs)(r:bc K G xs ds):nH K (y8 K a) G ds:=by
 refine⟨fun i d G' H' hd s1 s2=>?_,fun G' H' s1 s2=>⟨xs,s2.mX (s1.mX h),by rw[r.length];exact aq _⟩⟩;obtain⟨v,hv,rv⟩:=r.get hd;have hs:da K H' a xs:=s2.mX (s1.mX h);refine⟨⟨xs,v,hs,hv⟩,fun u H2 hy=>?_⟩;obtain⟨e,y⟩:=hy;subst e;have:=y xs hs;rw[hv] at this;cases this;exact⟨G',.refl s2,rv.mono s1⟩
theorem FU{K:PySem.W.Frag}{G:Hp}(z:Str):nH K (vk z) G (z.cps.toList.map fun c=>.str ⟨#[c]⟩):=by
 refine⟨fun i d G' H' hd s1 s2=>?_,fun G' H' s1 s2=>?_⟩
 ·rw[aK] at hd;cases e:z.cps.toList[i]? with
  | none=>rw[e] at hd;cases hd
  | some c=>
   rw[e] at hd;cases hd;have hc:z.cps[i]?=some c:=by simpa using e
   refine⟨(Array.getElem?_eq_some_iff.mp hc).1,fun v H2 hy=>?_⟩;obtain⟨e2,c',lK,rfl⟩:=hy;subst e2;rw[hc] at lK;cases lK;exact⟨G',.refl s2,pN _ _ _⟩
 ·show _=_;simp
theorem Iw{K:PySem.W.Frag}{G:Hp}(lo:Int)(n:Nat):nH K (vm lo n) G ((List.range n).map fun(i:Nat)=>.int (lo+i)):=by
 refine⟨fun i d G' H' hd s1 s2=>?_,fun G' H' s1 s2=>?_⟩
 ·rw[aK] at hd;cases e:(List.range n)[i]? with
  | none=>rw[e] at hd;cases hd
  | some c=>
   rw[e] at hd;cases hd;obtain⟨h1,h2⟩:=ax.mp e;have h3:i<n:=by simpa using h1
   have h4:c=i:=by rw[<-h2];simp
   subst h4;refine⟨h3,fun v H2 hy=>?_⟩;obtain⟨e2,rfl⟩:=hy;subst e2;exact⟨G',.refl s2,gm _ _ _⟩
 ·show n<=_;simp
noncomputable def kK(ds:List D):List D:=ds.mapIdx fun i d=>.tup [.int (i:Nat),d]
theorem AM{K:PySem.W.Frag}{G:Hp}{t:Addr}{x y:V}{d e:D}(s1:G t=some (.tup [x,y]))(r1:Rep K G x d)(r2:Rep K G y e):Rep K G (.ref t) (.tup [d,e]):=by
 simp only[Rep];exact⟨t,[x,y],rfl,s1,bc.cons r1 (bc.cons r2 bc.nil)⟩
theorem HH{K:PySem.W.Frag}{G:Hp}{a:Addr}{xs:List V}{ds:List D}(h:gC K G a xs)(r:bc K G xs ds):nH K (za K a) G (kK ds):=by
 refine⟨fun i d G' H' hd s1 s2=>?_,fun G' H' s1 s2=>⟨xs,(s2.c9 (s1.c9 h)).sq,by rw[r.length];simp[kK]⟩⟩;unfold kK at hd;rw[List.getElem?_mapIdx] at hd;cases e:ds[i]? with
 | none=>rw[e] at hd;cases hd
 | some d'=>
  rw[e] at hd;cases hd;obtain⟨v,hv,rv⟩:=r.get e;have hs:cN K H' a xs:=(s2.c9 (s1.c9 h)).sq;refine⟨⟨xs,v,hs,hv⟩,fun u H2 hy=>?_⟩;obtain⟨t,rfl,ht,y⟩:=hy;obtain⟨x,hx,rfl⟩:=y xs hs;rw[hv] at hx;cases hx;have x2:Ext G' H' (upd G' t (.tup [.int i,v])) (upd H' t (.tup [.int i,v])):=.new s2 ht;exact⟨_,x2,AM fq (gm _ _ _) ((rv.mono s1).mono x2.g)⟩
noncomputable def nG(ds es:List D):List D:=List.zipWith (fun d e=>.tup [d,e]) ds es
theorem FT{K:PySem.W.Frag}{G:Hp}{a b:Addr}{xs ys:List V}{ds es:List D}(h:gC K G a xs)(r:bc K G xs ds)(h':gC K G b ys)(r':bc K G ys es):nH K (y7 K a b) G (nG ds es):=by
 refine⟨fun i d G' H' hd s1 s2=>?_,fun G' H' s1 s2=>⟨xs,ys,(s2.c9 (s1.c9 h)).sq,(s2.c9 (s1.c9 h')).sq,?_⟩⟩
 ·unfold nG at hd;rw[List.getElem?_zipWith] at hd;cases e:ds[i]? with
  | none=>rw[e] at hd;cases hd
  | some d'=>
   cases e2:es[i]? with
   | none=>rw[e,e2] at hd;cases hd
   | some d2=>
    rw[e,e2] at hd;cases hd;obtain⟨v,hv,rv⟩:=r.get e;obtain⟨v',uS,fY⟩:=r'.get e2;have hs:cN K H' a xs:=(s2.c9 (s1.c9 h)).sq;have qg:cN K H' b ys:=(s2.c9 (s1.c9 h')).sq;refine⟨⟨xs,ys,v,v',hs,qg,hv,uS⟩,fun u H2 hy=>?_⟩;obtain⟨t,rfl,ht,y⟩:=hy;obtain⟨x,x',hx,jX,rfl⟩:=y xs ys hs qg;rw[hv] at hx;rw[uS] at jX;cases hx;cases jX;have x2:Ext G' H' (upd G' t (.tup [v,v'])) (upd H' t (.tup [v,v'])):=.new s2 ht;exact⟨_,x2,AM fq ((rv.mono s1).mono x2.g) ((fY.mono s1).mono x2.g)⟩
 ·rw[r.length,r'.length];unfold nG;rw[List.length_zipWith];omega
theorem gk{l:Expr}{te:TD}(h:PD X l te):PId X tg l (fh te):=by
 obtain⟨t,p,q⟩:=h;refine⟨_,E5 p,fun ρ σ G0 H0 G H Q P E h k=>q ρ σ G0 H0 G H _ _ E h fun v H' r G' x rr hq=>?_⟩;obtain⟨G2,x2,rv,_⟩:=rr.freeze x;unfold vP at hq;split at hq
 ·rename_i ds e;rw[e] at rv;simp only[Rep] at rv;obtain⟨a,xs,rfl,h1,h2⟩:=rv;exact .inl ⟨a,rfl,⟨xs,(x2.s.c9 h1).sq⟩,k _ H' _ G2 x2 (HI h1 h2) hq⟩
 ·rename_i ds e;rw[e] at rv;simp only[Rep] at rv;obtain⟨a,xs,rfl,h1,h2⟩:=rv;exact .inr (.inl ⟨a,rfl,⟨xs,x2.s.iY h1⟩,k _ H' _ G2 x2 (FV (da.of h1) h2) hq⟩)
 ·rename_i z e;rw[e] at rv;simp only[Rep] at rv;exact .inr (.inr ⟨z,rv,k _ H' _ G2 x2 (FU z) hq⟩)
 ·exact hq.elim
def kh(ts:fU):jc:=fun ρ Q=>ts ρ fun ds=>match ds with
 | [.int j]=>-(2 ^ 62)<=j/\j<2 ^ 62/\Q ((List.range j.toNat).map fun(i:Nat)=>.int (0+i))
 | _=>False
theorem gN{K:PySem.W.Frag}{G:Hp}{vs:List V}{d:D}(h:bc K G vs [d]):∃v,vs=[v]/\Rep K G v d:=by
 match vs,h with
 | [],h=>simp only[bc] at h
 | [v],h=>simp only[bc] at h;exact⟨v,rfl,h.1⟩
 | v::w::r,h=>simp only[bc] at h;exact absurd h.2 (by simp)
theorem vD{K:PySem.W.Frag}{G:Hp}{vs:List V}{d e:D}(h:bc K G vs [d,e]):∃v w,vs=[v,w]/\Rep K G v d/\Rep K G w e:=by
 match vs,h with
 | [],h=>simp only[bc] at h
 | v::r,h=>
  simp only[bc] at h;obtain⟨w,rfl,hw⟩:=gN h.2;exact⟨v,w,rfl,h.1,hw⟩
theorem me{a:Expr}{ts:fU}{p:Pos}(hm:X.mg "range"=none)(ha:iN X [a] ts)(hg:Gl X "range":=by rfl)(hs:starEach [a] X.env=[(false,eval a X.env)]:=by rfl):PId X tg (.Call (.Name "range" p) [a] [] pos) (kh ts):=by
 obtain⟨t,pp,q⟩:=ha;refine⟨_,Hu hg hm pp hs,fun ρ σ G0 H0 G H Q P E h k=>q ρ σ G0 H0 G H _ _ E h fun vs H' ds G' x rs hq=>?_⟩;split at hq
 ·obtain⟨v,rfl,rv⟩:=gN rs;simp only[Rep] at rv;subst rv;exact⟨_,rfl,hq.1,hq.2.1,k _ H' _ G' x (Iw 0 _) hq.2.2⟩
 ·exact hq.elim
def tS(ts:fU):jc:=fun ρ Q=>ts ρ fun ds=>match ds with
 | [.lst es]=>Q (kK es)
 | _=>False
theorem AL{a:Expr}{ts:fU}{p tp:Pos}{elts:List Expr}{x1:Nat}(hm:X.mg "enumerate"=none)(ha:iN X [a] ts)(hg:Gl X "enumerate":=by rfl)(hs:starEach [a] X.env=[(false,eval a X.env)]:=by rfl):PId X (.Tuple elts x1 tp) (.Call (.Name "enumerate" p) [a] [] pos) (tS ts):=by
 obtain⟨t,pp,q⟩:=ha;refine⟨_,Fp hg hm pp hs,fun ρ σ G0 H0 G H Q P E h k=>q ρ σ G0 H0 G H _ _ E h fun vs H' ds G' x rs hq=>?_⟩;split at hq
 ·obtain⟨v,rfl,rv⟩:=gN rs;simp only[Rep] at rv;obtain⟨a,xs,rfl,h1,h2⟩:=rv;exact⟨a,xs,rfl,x.s.c9 h1,k _ H' _ G' x (HH h1 h2) hq⟩
 ·exact hq.elim
def pF(ts:fU):jc:=fun ρ Q=>ts ρ fun ds=>match ds with
 | [.lst es,.lst fs]=>Q (nG es fs)
 | _=>False
theorem Am{a b:Expr}{ts:fU}{p tp:Pos}{elts:List Expr}{x1:Nat}(hm:X.mg "zip"=none)(ha:iN X [a,b] ts)(hg:Gl X "zip":=by rfl)(hs:starEach [a,b] X.env=[(false,eval a X.env),(false,eval b X.env)]:=by rfl)(kA:starEach [b] X.env=[(false,eval b X.env)]:=by rfl) :
  PId X (.Tuple elts x1 tp) (.Call (.Name "zip" p) [a,b] [] pos) (pF ts):=by
 obtain⟨t,pp,q⟩:=ha;refine⟨_,EZ hg hm pp hs kA,fun ρ σ G0 H0 G H Q P E h k=>q ρ σ G0 H0 G H _ _ E h fun vs H' ds G' x rs hq=>?_⟩;split at hq
 ·obtain⟨v,w',rfl,rv,ml⟩:=vD rs;simp only[Rep] at rv ml;obtain⟨a,xs,rfl,h1,h2⟩:=rv;obtain⟨b,ys,rfl,h3,h4⟩:=ml;exact⟨a,b,rfl,⟨xs,(x.s.c9 h1).sq⟩,⟨ys,(x.s.c9 h3).sq⟩,k _ H' _ G' x (FT h1 h2 h3 h4) hq⟩
 ·exact hq.elim
def gZ(wi:jc)(g:fT)(tb:TX):TX:=fun D ρ=>wi ρ fun ds=>∃Iv:Nat->Ev->Prop,Iv 0 ρ/\
 (∀i d ρ',ds[i]?=some d->Iv i ρ'->g d ρ' fun dw=>tb { D with nx:=Iv (i+1),ct:=Iv (i+1),bk:=D.nx } dw)/\∀ρ',Iv ds.length ρ'->D.nx ρ'
theorem km{iter:Expr}{body:List Stmt}{wi:jc}{g:fT}{tb:TX}(hp:PassesOwn (model X.prog X.w) X.A X.env X.xe)(hc:X.calm=true)(hi:PId X tg iter wi)(hg:nA X tg g)(hb:j8 X body tb)
  (hs:∀x,foldedSetIterable iter X.env x=pure x:=by intro _;rfl):PX X (.For tg iter body [] pos) (gZ wi g tb):=by
 obtain⟨t1,p1,q1⟩:=hi;obtain⟨t2,p2,q2⟩:=hg;obtain⟨t3,p3,q3⟩:=hb;refine⟨_,EH hp hc p1 p2 p3 hs,fun ρ σ G0 H0 G H D E k h gg=>q1 ρ σ G0 H0 G H _ _ k h fun J H1 ds G1 x1 wk hq=>?_⟩;obtain⟨Iv,i0,turn,fin⟩:=hq;refine⟨fun i m bR H'=>m=ds.length-i/\i<=ds.length/\∃ρ' G',cz X.K G0 H0 ρ' bR G' H'/\bw G1 G'/\Iv i ρ',⟨ds.length,by simp,Nat.zero_le _,ρ,G1,k.ext x1,bw.refl _,i0⟩,?_⟩;rintro i m bR H' ⟨rfl,hi,ρ',G',k',s',iv⟩;by_cases dg:i<ds.length
 ·obtain⟨w1,w2⟩:=wk;obtain⟨go,yl⟩:=w1 i ds[i] G' H' (ar dg) s' k'.e.s;refine .inr ⟨go,fun jO H2=>∃dw G2,cz X.K G0 H0 dw jO G2 H2/\bw G1 G2/\Iv (i+1) dw,fun jO H2 ⟨dw,G2,k2,s2,KS⟩=>⟨ds.length-(i+1),by omega,rfl,dg,dw,G2,k2,s2,KS⟩,fun v H2 hy=>?_⟩;obtain⟨G2,x2,rv⟩:=yl v H2 hy;refine q2 ρ' bR G0 H0 G2 H2 ds[i] v _ _ (k'.ext x2) rv (turn i ds[i] ρ' (ar dg) iv) fun qB lZ G3 H3 k3 x3 i4=>?_
  have s3:bw G1 G3:=(s'.trans x2.g).trans x3.g;refine q3 qB lZ G0 H0 G3 H3 _ _ k3 i4 ⟨fun qA nE G4 H4 s4 k4 h4=>⟨qA,G4,k4,s3.trans s4,h4⟩,gg.rt,fun qA nE G4 H4 s4 k4 h4=>gg.nx qA nE G4 H4 ((x1.g.trans s3).trans s4) k4 h4,fun qA nE G4 H4 s4 k4 h4=>⟨qA,G4,k4,s3.trans s4,h4⟩⟩
 ·have e:i=ds.length:=by omega
  subst e;exact .inl ⟨wk.2 G' H' s' k'.e.s,gg.nx ρ' bR G' H' (x1.g.trans s') k' (fin ρ' iv)⟩
end
end L2
namespace L2
open PySem PySem.Spec PyProof.Rows
noncomputable def mD(ρ:Ev):Option Nat->Sl
 | none=>.un
 | some j=>match gt ρ j with
  | .fz d=>.fz d
  | _=>.un
noncomputable def gH(m:List (Option Nat))(ρ:Ev):Ev:=m.map (mD ρ)
theorem qR{m:List (Option Nat)}{ρ:Ev}{i:Nat}:gt (m.map (mD ρ)) i=match m[i]? with
  | some o=>mD ρ o
  | none=>.un:=by
 induction m generalizing i with
 | nil=>simp[gt]
 | cons a r ih=>
  cases i with
  | zero=>simp[gt]
  | succ i=>simp only[av,gt,List.getElem?_cons_succ];exact ih
def mM(m:List (Option Nat))(g:fT):Prop:=∀d ρ Q,g d ρ Q->g d ρ fun dw=>Q dw/\dw.length=ρ.length/\∀j c,m[j]?=some (some c)->gt dw j=gt ρ j
def uh(m:List (Option Nat))(g:ka):Prop:=∀ds ρ Q,g ds ρ Q->g ds ρ fun dw=>Q dw/\dw.length=ρ.length/\∀j c,m[j]?=some (some c)->gt dw j=gt ρ j
theorem gj{m:List (Option Nat)}{i:Nat}(h:m[i]?=some none:=by rfl):mM m (bW i):=fun d ρ Q q=>by
 refine⟨q,by simp,fun j c hj=>?_⟩;rw[qM,if_neg];rintro⟨e,_⟩;subst e;rw[h] at hj;cases hj
theorem AK{m:List (Option Nat)}:uh m gh:=fun ds ρ Q q=>by
 unfold gh at q ⊢;split at q
 ·exact⟨q,rfl,fun _ _ _=>rfl⟩
 ·exact q.elim
theorem qY{m:List (Option Nat)}{t:fT}{u:ka}(mono:∀d ρ (Q Q':Ev->Prop),(∀ρ',Q ρ'->Q' ρ')->t d ρ Q->t d ρ Q')(lA:∀d ρ (Q Q':Ev->Prop),(∀ρ',Q ρ'->Q' ρ')->u d ρ Q->u d ρ Q')(h1:mM m t)(h2:uh m u):uh m (de t u):=fun ds ρ Q q=>by
 unfold de at q ⊢;split at q
 ·refine mono _ _ _ _ (fun ρ' bG=>?_) (h1 _ _ _ q);obtain⟨q',l',k'⟩:=bG;exact lA _ _ _ _ (fun dw bG=>by obtain⟨q2,l2,k2⟩:=bG;exact⟨q2,l2.trans l',fun j c hj=>(k2 j c hj).trans (k' j c hj)⟩) (h2 _ _ _ q')
 ·exact q.elim
theorem AJ{m:List (Option Nat)}{n:Nat}{u:ka}(h2:uh m u):mM m (g6 n u):=fun d ρ Q q=>by
 unfold g6 at q ⊢;split at q
 ·exact⟨q.1,h2 _ _ _ q.2⟩
 ·exact q.elim
theorem mP{i:Nat}:∀d ρ (Q Q':Ev->Prop),(∀ρ',Q ρ'->Q' ρ')->bW i d ρ Q->bW i d ρ Q':=fun _ _ _ _ h q=>h _ q
theorem qW:∀d ρ (Q Q':Ev->Prop),(∀ρ',Q ρ'->Q' ρ')->gh d ρ Q->gh d ρ Q':=fun _ _ _ _ h q=>by
 unfold gh at q ⊢;split at q
 ·exact h _ q
 ·exact q.elim
theorem uC{t:fT}{u:ka}(mono:∀d ρ (Q Q':Ev->Prop),(∀ρ',Q ρ'->Q' ρ')->t d ρ Q->t d ρ Q')(lA:∀d ρ (Q Q':Ev->Prop),(∀ρ',Q ρ'->Q' ρ')->u d ρ Q->u d ρ Q'):∀d ρ (Q Q':Ev->Prop),(∀ρ',Q ρ'->Q' ρ')->de t u d ρ Q->de t u d ρ Q':=fun _ _ _ _ h q=>by
 unfold de at q ⊢;split at q
 ·exact mono _ _ _ _ (fun ρ' q'=>lA _ _ _ _ h q') q
 ·exact q.elim
theorem uB{m:List (Option Nat)}{i j n:Nat}(h:m[i]?=some none:=by rfl)(h':m[j]?=some none:=by rfl):mM m (g6 n (de (bW i) (de (bW j) gh))):=
 AJ (qY mP (uC mP qW) (gj h) (qY mP qW (gj h') AK))
theorem Bx{m:List (Option Nat)}{i j k n:Nat}(h:m[i]?=some none:=by rfl)(h':m[j]?=some none:=by rfl)(pd:m[k]?=some none:=by rfl):mM m (g6 n (de (bW i) (de (bW j) (de (bW k) gh)))):=
 AJ (qY mP (uC mP (uC mP qW)) (gj h) (qY mP (uC mP qW) (gj h') (qY mP qW (gj pd) AK)))
def tI(X:Cx)(ifs:List Expr)(t:gK):Prop:=∃tt,qv X ifs tt/\∀(ρ:Ev) (σ:St) (G0 H0 G H:Hp) (Q:Bool->Prop) (P:Bool->Hp->Prop),cz X.K G0 H0 ρ σ G H->t ρ Q->
 (∀b H' G',Ext G H G' H'->Q b->P b H')->tt σ H P
def gY:gK:=fun _ Q=>Q true
theorem jP{X:Cx}:tI X [] gY:=⟨_,Ft,fun ρ σ G0 H0 G H Q P E h k=>k true H G (.refl E.e.s) h⟩
theorem lb{X:Cx}{c:Expr}{t:gK}(h:PB X c t):tI X [c] t:=let⟨tt,p,q⟩:=h;⟨tt,Fs p,q⟩
def et(wi:jc)(m:List (Option Nat))(g:fT)(tc:gK)(te:TD):TD:=fun ρ Q=>wi ρ fun ds=>∃Iv:Nat->List D->Prop,Iv 0 []/\
 (∀i d acc,ds[i]?=some d->Iv i acc->g d (gH m ρ) fun dw=>tc dw fun b=>if b=true then te dw fun r=>acc.length<sizeLine/\Iv (i+1) (acc++[r.val]) else Iv (i+1) acc)/\∀acc,Iv ds.length acc->Q (.ow acc)
section
variable {X:Cx} {elt iter tg:Expr} {ifs:List Expr} {scope:Scope} {pos:Pos} {N':List Str} {m:List (Option Nat)} {wi:jc} {g:fT} {tc:gK} {te:TD}
theorem v8(cs:bU X N' m scope)(hk:mM m g){ww:TI}{gg:ny TG}{BL:ny TT}{tee:ny TE}
  (q1:∀(ρ:Ev) (σ:St) (G0 H0 G H:Hp) (Q:List D->Prop) (P:It->Hp->Prop),cz X.K G0 H0 ρ σ G H->wi ρ Q->(∀J H' ds G',Ext G H G' H'->nH X.K J G' ds->Q ds->P J H')->ww σ H P)
  (q2:∀s3 H3 ex (ρ:Ev) (σ:St) (G0 H0 G H:Hp) (d:D) (v:V) (Q:Ev->Prop) (P:St->Hp->Prop),cz X.K G0 H0 ρ σ G H->Rep X.K G v d->g d ρ Q->(∀ρ' bR G' H',cz X.K G0 H0 ρ' bR G' H'->Ext G H G' H'->Q ρ'->P bR H')->gg s3 H3 ex v σ H P)
  (q3:∀s3 H3 ex (ρ:Ev) (σ:St) (G0 H0 G H:Hp) (Q:Bool->Prop) (P:Bool->Hp->Prop),cz X.K G0 H0 ρ σ G H->tc ρ Q->(∀b H' G',Ext G H G' H'->Q b->P b H')->BL s3 H3 ex σ H P)
  (q4:∀s3 H3 ex,y1 X.K te (tee s3 H3 ex)):y1 X.K (et wi m g tc te) (tV ww m gg BL tee):=by
 refine fun ρ σ G0 H0 G H Q P E h k=>q1 ρ σ G0 H0 G H _ _ E h fun J H1 ds G1 x1 wk hq=>?_
 obtain⟨Iv,i0,turn,fin⟩:=hq;intro D hD s3 ex;have E1:=E.ext x1;have LL:G1 D=none:=x1.s.free hD;have kz:∀{i:Nat} {es:List L2.D},gt (gH m ρ) i=.ow es->False:=fun{i es} h=>by
  unfold gH at h;rw[qR] at h;split at h
  ·rename_i o _;unfold mD at h;split at h
   ·cases h
   ·split at h<;>cases h
  ·cases h
 have sk:∀{i:Nat} {o:OV},gt (gH m ρ) i=.ov o->False:=fun{i o} h=>by
  unfold gH at h;rw[qR] at h;split at h
  ·rename_i o _;unfold mD at h;split at h
   ·cases h
   ·split at h<;>cases h
  ·cases h
 have ic:cz X.K G1 H1 (gH m ρ) (kQ m σ) G1 (upd H1 D (.lst [])):=by
  refine⟨.own x1.s hD,by simp[kQ,gH],fun i d h=>?_,fun i es h=>(kz h).elim,fun i j es fs _ h=>(kz h).elim,fun _=>none,fun i es _ h=>(kz h).elim,fun i o h=>(sk h).elim⟩;unfold gH at h;rw[qR] at h;split at h
  ·rename_i o ho;unfold mD at h;split at h
   ·cases h
   ·rename_i j;split at h
    ·rename_i d' o8;cases h;obtain⟨v,hv,rv⟩:=E1.fz j d o8;refine⟨v,?_,rv⟩;unfold kQ;rw[aK,ho];simp[hv]
    ·cases h
  ·cases h
 refine⟨fun i n bR H'=>n=ds.length-i/\i<=ds.length/\∃acc xs G',cz X.K G1 H1 (gH m ρ) bR G' H'/\H' D=some (.lst xs)/\G' D=none/\bc X.K G' xs acc/\Iv i acc,
  ⟨ds.length,by simp,Nat.zero_le _,[],[],G1,ic,fq,LL,bc.nil,i0⟩,?_⟩
 rintro i n bR H' ⟨rfl,hi,acc,xs,G',E',hx,Cj,rx,iv⟩;by_cases dg:i<ds.length
 ·obtain⟨w1,w2⟩:=wk;obtain⟨go,yl⟩:=w1 i ds[i] G' H' (ar dg) E'.e.g E'.e.s;refine .inr ⟨go,fun jO H2=>∃acc xs G',cz X.K G1 H1 (gH m ρ) jO G' H2/\H2 D=some (.lst xs)/\G' D=none/\bc X.K G' xs acc/\Iv (i+1) acc,fun jO H2 h2=>⟨ds.length-(i+1),by omega,rfl,dg,h2⟩,fun v H2 hy=>?_⟩;obtain⟨G2,x2,rv⟩:=yl v H2 hy;refine q2 _ _ _ (gH m ρ) bR G1 H1 G2 H2 ds[i] v _ _ (E'.ext x2) rv (hk _ _ _ (turn i ds[i] acc (ar dg) iv)) fun qB lZ G3 H3 E3 x3 i4=>?_
  obtain⟨i4,Ll,Lq⟩:=i4;have weak:∀j,gt (gH m ρ) j=.un\/gt (gH m ρ) j=gt qB j:=fun j=>by
   cases hm:m[j]? with
   | none=>left;unfold gH;rw[qR,hm]
   | some o=>
    cases o with
    | none=>left;unfold gH;rw[qR,hm];rfl
    | some c=>right;exact(Lq j c hm).symm
  have J9:=x2.trans x3;refine q3 _ _ _ qB lZ G1 H1 G3 H3 _ _ E3 i4 fun b H4 G4 x4 uT=>?_
  have uI:=J9.trans x4;have E4:=(E3.ext x4).weak (ρ':=gH m ρ) (Ll.symm) weak;have ya:H4 D=some (.lst xs):=uI.h _ _ hx;have Ci:G4 D=none:=uI.n D Cj (by rw[hx];exact nofun);cases b with
  | false=>
   rw[if_neg aG] at uT ⊢;exact⟨acc,xs,G4,E4,ya,Ci,rx.mono uI.g,uT⟩
  | true=>
   rw[if_pos rfl] at uT ⊢;refine q4 _ _ _ qB lZ G1 H1 G4 H4 _ _ (E3.ext x4) uT fun v5 H5 r5 G5 x5 Kv B5=>?_
   obtain⟨G6,x6,Kq,_⟩:=Kv.freeze x5;have E6:=E4.ext x6;have K3:H5 D=some (.lst xs):=x6.h _ _ ya;have Cg:G6 D=none:=x6.n D Ci (by rw[ya];exact nofun);have r6:bc X.K G6 xs acc:=(rx.mono uI.g).mono x6.g;refine⟨xs,K3,by rw[r6.length];exact B5.1,acc++[r5.val],xs++[v5],G6,?_,fq,Cg,r6.append (bc.cons Kq bc.nil),B5.2⟩;refine⟨⟨E6.e.g,fun b o e=>by rw[cA (gO e hD)];exact E6.e.h b o e,fun b o e=>by rw[cA (gO e Cg)];exact E6.e.s b o e,E6.e.n⟩,E6.len,E6.fz,fun i es h=>(kz h).elim,fun i j es fs _ h=>(kz h).elim,fun _=>none,fun i es _ h=>(kz h).elim,fun i o h=>(sk h).elim⟩
 ·have e:i=ds.length:=by omega
  subst e;refine .inl ⟨wk.2 G' H' E'.e.g E'.e.s,k _ H' (.ow acc) G' (x1.trans E'.e) ⟨D,xs,rfl,x1.h.free hD,Cj,hx,rx⟩ (fin acc iv)⟩
theorem jq(hc:X.calm=true)(cs:bU X N' m scope)(hk:mM m g)(hi:PId X tg iter wi)(hg:∀s3 H3 ex,nA (f9 X N' scope s3 H3 ex) tg g)(ht:∀s3 H3 ex,tI (f9 X N' scope s3 H3 ex) ifs tc)
  (he:∀s3 H3 ex,PD (f9 X N' scope s3 H3 ex) elt te) (hs:∀x,foldedSetIterable iter X.env x=pure x:=by intro _;rfl):PD X (.ListComp elt [⟨tg,iter,ifs,0⟩] scope pos) (et wi m g tc te):=by
 obtain⟨ww,p1,q1⟩:=hi;exact⟨_,Fq (g:=fun s3 H3 ex=>(hg s3 H3 ex).choose) (tc:=fun s3 H3 ex=>(ht s3 H3 ex).choose) (te:=fun s3 H3 ex=>(he s3 H3 ex).choose) hc cs p1 (fun s3 H3 ex=>(hg s3 H3 ex).choose_spec.1) (fun s3 H3 ex=>(ht s3 H3 ex).choose_spec.1) (fun s3 H3 ex=>(he s3 H3 ex).choose_spec.1) hs,
  v8 cs hk q1 (fun s3 H3 ex=>(hg s3 H3 ex).choose_spec.2) (fun s3 H3 ex=>(ht s3 H3 ex).choose_spec.2) (fun s3 H3 ex=>(he s3 H3 ex).choose_spec.2)⟩
theorem Al(i:Nat){x:Str}{pos' i3:Pos}(hc:X.calm=true)(cs:bU X N' m scope)(hk:mM m g)(hi:PId X tg iter wi)(hg:∀s3 H3 ex,nA (f9 X N' scope s3 H3 ex) tg g)(ht:∀s3 H3 ex,tI (f9 X N' scope s3 H3 ex) ifs tc)
  (he:∀s3 H3 ex,PD (f9 X N' scope s3 H3 ex) elt te) (hN:X.N.Nodup:=by assumption) (sY:X.N[i]?=some x:=by rfl) (hx:Loc X.env.scope x:=by first | exact Or.inl rfl | exact Or.inr rfl) (hs:∀x,foldedSetIterable iter X.env x=pure x:=by intro _;rfl)
  (sL:swapsWith (.ListComp elt [⟨tg,iter,ifs,0⟩] scope pos) (some (.Name x pos')) i3.line X.env=pure true:=by rfl)
  (hf:X.fn x=true\/X.env.scope.names.lookup x=some .local:=by first | exact .inl rfl | exact .inr rfl | assumption) :
  PX X (.Assign [.Name x pos'] (.ListComp elt [⟨tg,iter,ifs,0⟩] scope pos) i3) (kb i (et wi m g tc te)):=by
 obtain⟨ww,p1,q1⟩:=hi;refine⟨_,Aq (g:=fun s3 H3 ex=>(hg s3 H3 ex).choose) (tc:=fun s3 H3 ex=>(ht s3 H3 ex).choose) (te:=fun s3 H3 ex=>(he s3 H3 ex).choose) hN sY hx hc cs p1 (fun s3 H3 ex=>(hg s3 H3 ex).choose_spec.1) (fun s3 H3 ex=>(ht s3 H3 ex).choose_spec.1) (fun s3 H3 ex=>(he s3 H3 ex).choose_spec.1) hs sL hf,fun ρ σ G0 H0 G H D E k h gg=>?_⟩;exact v8 cs hk q1 (fun s3 H3 ex=>(hg s3 H3 ex).choose_spec.2) (fun s3 H3 ex=>(ht s3 H3 ex).choose_spec.2) (fun s3 H3 ex=>(he s3 H3 ex).choose_spec.2) ρ σ G0 H0 G H _ _ k h fun v H' r G' x rr hq=>gg.nx _ _ G' H' x.g (k.put x rr) hq
theorem oB(i:Nat){x:Str}{pos' i3:Pos}(hc:X.calm=true)(cs:bU X N' m scope)(hk:mM m g)(hi:PId X tg iter wi)(hg:∀s3 H3 ex,nA (f9 X N' scope s3 H3 ex) tg g)(ht:∀s3 H3 ex,tI (f9 X N' scope s3 H3 ex) ifs tc)
  (he:∀s3 H3 ex,PD (f9 X N' scope s3 H3 ex) elt te) (hN:X.N.Nodup:=by assumption) (sY:X.N[i]?=some x:=by rfl) (hx:Loc X.env.scope x:=by first | exact Or.inl rfl | exact Or.inr rfl) (hs:∀x,foldedSetIterable iter X.env x=pure x:=by intro _;rfl)
  (sL:swapsWith (.ListComp elt [⟨tg,iter,ifs,0⟩] scope pos) (some (.Name x pos')) i3.line X.env=pure true:=by rfl)
  (hf:X.fn x=true\/X.env.scope.names.lookup x=some .local:=by first | exact .inl rfl | exact .inr rfl | assumption) :
  PX X (.Assign [.Name x pos'] (.ListComp elt [⟨tg,iter,ifs,0⟩] scope pos) i3) (cv i (et wi m g tc te)):=by
 obtain⟨ww,p1,q1⟩:=hi;refine⟨_,Aq (g:=fun s3 H3 ex=>(hg s3 H3 ex).choose) (tc:=fun s3 H3 ex=>(ht s3 H3 ex).choose) (te:=fun s3 H3 ex=>(he s3 H3 ex).choose) hN sY hx hc cs p1 (fun s3 H3 ex=>(hg s3 H3 ex).choose_spec.1) (fun s3 H3 ex=>(ht s3 H3 ex).choose_spec.1) (fun s3 H3 ex=>(he s3 H3 ex).choose_spec.1) hs sL hf,fun ρ σ G0 H0 G H D E k h gg=>?_⟩;refine v8 cs hk q1 (fun s3 H3 ex=>(hg s3 H3 ex).choose_spec.2) (fun s3 H3 ex=>(ht s3 H3 ex).choose_spec.2) (fun s3 H3 ex=>(he s3 H3 ex).choose_spec.2) ρ σ G0 H0 G H _ _ k h fun v H' r G' x rr hq=>?_
 obtain⟨G2,x2,rv,_⟩:=rr.freeze x;exact gg.nx _ _ G2 H' x2.g (k.put x2 (r:=.fz r.val) rv) hq
end
noncomputable abbrev cI:=List D->(R->Prop)->Prop
def pz(K:PySem.W.Frag)(n:Nat)(t:cI):Sp:=fun vs H Q _=>∃G ds Qr,bw G H/\bc K G vs ds/\ds.length=n/\t ds Qr/\∀v H' r G',Ext G H G' H'->cP K G' H' H v r->Qr r->Q v H'
noncomputable def eW(N:List Str)(ds:List D):Ev:=ds.map Sl.fz++List.replicate (N.length-ds.length) .un
theorem IQ{ds:List D}{l:List Sl}{i:Nat}{s:Sl}(h:gt (ds.map Sl.fz++l) i=s):(∃d,ds[i]?=some d/\s=.fz d)\/(ds.length<=i/\gt l (i-ds.length)=s):=by
 induction ds generalizing i with
 | nil=>exact .inr ⟨Nat.zero_le _,by simpa using h⟩
 | cons d ds ih=>
  cases i with
  | zero=>simp only[av,List.cons_append,gt] at h;exact .inl ⟨d,rfl,h.symm⟩
  | succ i=>
   simp only[av,List.cons_append,gt] at h;rcases ih h with⟨e,h1,h2⟩ | ⟨h1,h2⟩
   ·exact .inl ⟨e,by simpa using h1,h2⟩
   ·refine .inr ⟨by simp;omega,?_⟩;rw[aw];rw[show i+1-(ds.length+1)=i-ds.length by omega];exact h2
theorem HY{n i:Nat}:gt (List.replicate n Sl.un) i=.un:=by
 induction n generalizing i with
 | zero=>simp[gt]
 | succ n ih=>
  cases i with
  | zero=>rfl
  | succ i=>exact ih
theorem AI{K:PySem.W.Frag}{G H:Hp}{N:List Str}{vs:List V}{ds:List D}(s:bw G H)(r:bc K G vs ds):cz K G H (eW N ds) (ic N vs) G H:=by
 have hl:=r.length;have c:∀{i:Nat} {t:Sl},gt (eW N ds) i=t->t≠.un->∃d,ds[i]?=some d/\t=.fz d:=fun{i t} h n=>by
  rcases IQ h with h | ⟨_,h⟩
  ·exact h
  ·rw[HY] at h;exact absurd h.symm n
 refine⟨.refl s,by simp[ic,eW,hl],fun i d h=>?_,fun i es h=>?_,fun i j es fs _ h=>?_,fun _=>none,fun i es _ h=>?_,fun i o h=>?_⟩
 ·obtain⟨d',h1,h2⟩:=c h (by simp);cases h2;obtain⟨v,hv,rv⟩:=r.get h1;have hi:i<vs.length:=(ax.mp hv).1;refine⟨v,?_,rv⟩;unfold ic;rw[List.getElem?_append_left (by simpa using hi),aK,hv];rfl
 ·obtain⟨d',h1,h2⟩:=c h (by simp);cases h2
 ·obtain⟨d',h1,h2⟩:=c h (by simp);cases h2
 ·obtain⟨d',h1,h2⟩:=c h (by simp);cases h2
 ·obtain⟨d',h1,h2⟩:=c h (by simp);cases h2
section
variable {P:Program} {w:World} {K:PySem.W.Frag} {mg:Str->Option Value} {base:Heap}
theorem v7{x qual:Str}{st:Stmt}{f:Addr}{fd:FuncData}{N ps:List Str}{k:Nat}{t:cI}{T:TX}{dV:Value}(F:iy dV K x qual st f fd)(S:br N ps (bf st))
  (body:∀(bM:Value) (A:Around) (outer:List Env) (s:Shared) (H:Hp) (E:XK),cm k (A.deeper (envOfC qual (bf st) s.heap.objs.size f bM))->j8 (kJ iO P w K mg base N qual (bf st) f bM A outer s H E).mn (bN st) T)
  (spec:∀(ds:List D) (Qr:R->Prop),ds.length=ps.length->t ds Qr->T { nx:=fun _=>Qr (.fz .non),rt:=Qr } (eW N ds)):eT P w K mg base iO (k+1) f fd ps (pz K ps.length t):=by
 refine F.ok S (fun vs H Q E h=>?_) (fun bM A outer s H vs Q E hr h=>?_)
 ·obtain⟨G,ds,Qr,_,r,hl,_⟩:=h;rw[r.length,hl]
 ·obtain⟨G,ds,Qr,s0,r,hl,ht,k0⟩:=h;obtain⟨tt,p,q⟩:=body bM A outer s H E hr;exact⟨tt,p,q _ _ G H G H _ _ (AI s0 r) (spec ds Qr hl ht) ⟨fun ρ σ G' H' _ e h=>k0 _ H' _ G' e.e (ee (Ap _ _)) h,k0,fun _ _ _ _ _ _ h=>h.elim,fun _ _ _ _ _ _ h=>h.elim⟩⟩
end
section
variable {X:Cx} {k n:Nat} {f:Addr} {fd:FuncData} {ps:List Str} {t:cI} {x:Str} {p pos:Pos} {e:Expr} {es:List Expr} {ts:fU}
def dy(n:Nat)(t:cI)(ts:fU):TD:=fun ρ Q=>ts ρ fun ds=>ds.length=n/\t ds Q
theorem Fn(F:eT X.prog X.w X.K X.mg X.base iO k f fd ps (pz X.K n t))(hr:cm k X.A)(hm:X.mg x=some (.ref f))(hk:PySem.W.keepIn X.K (.ref f)=true)(hb:Binds X.K fd ps [])(ha:iN X (e::es) ts)(hg:Gl X x:=by rfl)(il:(x==("__debug__":Str))=false:=by decide)
  (he:starEach (e::es) X.env=(false,eval e X.env)::starEach es X.env:=by rfl) (dA:(backTo pos (starEach es X.env)).any (·.1)=false:=by rfl):PD X (.Call (.Name x p) (e::es) [] pos) (dy n t ts):=by
 obtain⟨tt,pp,q⟩:=ha;refine⟨_,Au F hr hg hm hk hb .nil vF pp il he dA,fun ρ σ G0 H0 G H Q P E h k=>q ρ σ G0 H0 G H _ _ E h fun vs H' ds G' x rs hq=>?_⟩;rw[List.append_nil];exact⟨G',ds,Q,x.s,rs,hq.1,hq.2,fun v H2 r G2 x2 rr q2=>k v H2 r G2 (x.trans x2) (rr.dz x.h) q2⟩
end
end L2
namespace L2
open PySem PySem.Spec PyProof.Rows PySem.StrLaws
noncomputable def gf{α:Type}(xs:List α)(lo hi:Option Int):List α:=(xs.drop (HT.cg xs.length 0 lo)).take (HT.cg xs.length xs.length hi-HT.cg xs.length 0 lo)
noncomputable def kX(z:Str)(lo hi:Option Int):Str:=⟨(gf z.cps.toList lo hi).toArray⟩
theorem nL(v:Int)(n d:Nat):max 0 (min (if v<0 then v+(n:Int) else v) (n:Int))=((HT.cg n d (some v):Nat):Int):=by
 rw[<-HT.iq];by_cases h:v<0
 ·rw[if_pos h,if_pos h];omega
 ·rw[if_neg h,if_neg h];omega
theorem Bq(z:Str)(lo hi:Option Int):(Builtin.Str.strSliceIndices lo hi 1 z.length).filterMap (z.cps[·]?)=gf z.cps.toList lo hi:=by
 have hl:z.cps.toList.length=z.length:=by simp[Str.length]
 have e:Builtin.Str.strSliceIndices lo hi 1 z.length=sliceRange ((HT.cg z.length 0 lo:Nat):Int) ((HT.cg z.length z.length hi:Nat):Int) 1:=by
  unfold Builtin.Str.strSliceIndices;cases lo with
  | none=>
   cases hi with
   | none=>rfl
   | some v=>simp only[show((1:Int)>0) from by decide,aY,nL v z.length z.length];rfl
  | some u=>
   cases hi with
   | none=>simp only[show((1:Int)>0) from by decide,aY,nL u z.length 0];rfl
   | some v=>simp only[show((1:Int)>0) from by decide,aY,nL v z.length z.length,nL u z.length 0]
 rw[e];unfold gf;rw[hl];generalize ha:HT.cg z.length 0 lo=a;generalize hb:HT.cg z.length z.length hi=b;have u6:b<=z.length:=by rw[<-hb];exact HT.fJ _ _ (aq _) _
 have qp:a<=z.length:=by rw[<-ha];exact HT.fJ _ _ (Nat.zero_le _) _
 by_cases iK:a<=b
 ·have:=sliced_plain z iK u6;rw[strSliceIndices_plain iK u6] at this;rw[<-this];unfold sliceRange;simp only[show((1:Int)>0) from by decide,aY];congr 1
  by_cases h:a<b
  ·rw[if_pos (by omega)];rw[show(((b:Int)-(a:Int)+1-1)/1).toNat=b-a by omega];apply List.map_congr_left;intro k _;show((a:Int)+1*(k:Int)).toNat=a+k;omega
  ·rw[if_neg (by omega),show b-a=0 by omega];rfl
 ·rw[show b-a=0 by omega,List.take_zero];unfold sliceRange;simp only[show((1:Int)>0) from by decide,aY];rw[if_neg (by omega)];rfl
theorem HX(z:Str)(lo hi:Option Int):Txt.slice z lo hi=kX z lo hi:=by
 unfold Txt.slice kX;split
 ·rename_i h;have h':(Builtin.Str.strSliceIndices lo hi 1 z.length).length=z.length:=by simpa using h
  have hl:z.cps.toList.length=z.length:=by simp[Str.length]
  have e:=Bq z lo hi;have h2:(gf z.cps.toList lo hi).length=z.length:=by
   unfold gf;rw[aL,List.length_drop,hl];have e1:Builtin.Str.strSliceIndices lo hi 1 z.length=sliceRange ((HT.cg z.length 0 lo:Nat):Int) ((HT.cg z.length z.length hi:Nat):Int) 1:=by
    unfold Builtin.Str.strSliceIndices;cases lo with
    | none=>
     cases hi with
     | none=>rfl
     | some v=>simp only[show((1:Int)>0) from by decide,aY,nL v z.length z.length];rfl
    | some u=>
     cases hi with
     | none=>simp only[show((1:Int)>0) from by decide,aY,nL u z.length 0];rfl
     | some v=>simp only[show((1:Int)>0) from by decide,aY,nL v z.length z.length,nL u z.length 0]
   rw[e1] at h';unfold sliceRange at h';simp only[show((1:Int)>0) from by decide,aY,af,List.length_range] at h';have b1:=HT.fJ z.length z.length (aq _) hi;have b2:=HT.fJ z.length 0 (Nat.zero_le _) lo;by_cases h3:((HT.cg z.length 0 lo:Nat):Int)<((HT.cg z.length z.length hi:Nat):Int)
   ·rw[if_pos h3] at h';omega
   ·rw[if_neg h3] at h';simp at h';omega
  apply Str.ext';show z.cps=(gf z.cps.toList lo hi).toArray;have h3:gf z.cps.toList lo hi=z.cps.toList:=by
   unfold gf at h2 ⊢;rw[aL,List.length_drop,hl] at h2;rw[hl];have b1:=HT.fJ z.length z.length (aq _) hi;have a0:HT.cg z.length 0 lo=0\/z.length=0:=by omega
   rcases a0 with a0 | a0
   ·rw[a0,List.drop_zero,Nat.sub_zero];exact List.take_of_length_le (by omega)
   ·have:z.cps.toList=[]:=List.eq_nil_of_length_eq_zero (by omega);rw[this];simp
  rw[h3]
 ·rw[Bq]
section
variable {X:Cx} {pos:Pos} {e:Expr} {te:TD}
theorem oP:oo X (fun x lo hi H Q=>∃z,x=.str z/\z.length<=sizeLine/\Q (.str (kX z lo hi)) H):=by
 intro pins s σ H x v vl vu lo hi sl Q I rx hs pl pu h;obtain⟨z,rfl,hz,q⟩:=h;obtain⟨t,rfl⟩:=rx;refine⟨"str",_,F.slot_str_getitem.lookup,typeIs_str _ _ _,?_⟩;have part:∀{u:Value} {o:Option Int},IsPart u o->∃p:Option (Int×Tok),u=partValue p/\p.map (·.1)=o:=fun h=>by
  cases h with
  | none=>exact⟨none,rfl,rfl⟩
  | int i t=>exact⟨some (i,t),rfl,rfl⟩
 obtain⟨p1,rfl,e1⟩:=part pl;obtain⟨p2,rfl,e2⟩:=part pu;obtain⟨o,ho,hc,hd⟩:=hs;refine wpAny_getItem_str_slice (l:=p1) (u:=p2) (st:=none) ⟨o,ho,hc,hd⟩ rfl ?_;have fin:∀t' k,EP X pins σ Q (.str (Txt.slice z lo hi) t') { s with toks:=k }:=fun t' k=>⟨.str (kX z lo hi),H,I.tok k,⟨t',by rw[HX]⟩,q⟩
 have hle:=aJ (Txt.slice_le z lo hi) hz;subst e1 e2;exact post_val_or_str ⟨hle,fin⟩
noncomputable abbrev tH:=Ev->(Option Int->Prop)->Prop
def vg(X:Cx)(e:Option Expr)(t:tH):Prop:=∃tt,PO X e tt/\∀(ρ:Ev) (σ:St) (G0 H0 G H:Hp) (Q:Option Int->Prop) (P:Option Int->Hp->Prop),cz X.K G0 H0 ρ σ G H->t ρ Q->(∀o H' G',Ext G H G' H'->Q o->P o H')->tt σ H P
def jt:tH:=fun _ Q=>Q none
def hJ(te:TD):tH:=fun ρ Q=>te ρ fun r=>match r.val with
 | .int i=>Q (some i)
 | _=>False
theorem kr:vg X none jt:=⟨_,Fx,fun ρ σ G0 H0 G H Q P E h k=>k none H G (.refl E.e.s) h⟩
theorem iT(h:PD X e te):vg X (some e) (hJ te):=by
 obtain⟨t,p,q⟩:=h;refine⟨_,Fw p,fun ρ σ G0 H0 G H Q P E h k=>q ρ σ G0 H0 G H _ _ E h fun v H' r G' x rr hq=>?_⟩;obtain⟨G2,x2,rv,_⟩:=rr.freeze x;split at hq
 ·rename_i i e1;rw[e1] at rv;simp only[Rep] at rv;exact⟨i,rv,k _ H' G2 x2 hq⟩
 ·exact hq.elim
def iM(te:TD)(tl th:tH):TD:=fun ρ Q=>te ρ fun r=>tl ρ fun lo=>th ρ fun hi=>match r.val with
 | .lst ds=>Q (.ow (gf ds lo hi))
 | .str z=>z.length<=sizeLine/\Q (.fz (.str (kX z lo hi)))
 | .tup ds=>¬(HT.cg ds.length 0 lo=0/\HT.cg ds.length ds.length hi=ds.length)/\Q (.fz (.tup (gf ds lo hi)))
 | _=>False
theorem Az{K:PySem.W.Frag}{G:Hp}{xs:List V}{ds:List D}(r:bc K G xs ds)(lo hi:Option Int):bc K G (l0 xs lo hi) (gf ds lo hi):=by
 unfold l0 gf;rw[r.length];exact(r.drop _).take _
theorem jw{lo hi:Option Expr}{tl th:tH}{p2:Pos}(he:PD X e te)(hl:vg X lo tl)(hh:vg X hi th):PD X (.Subscript e (.Slice lo hi none p2) pos) (iM te tl th):=by
 obtain⟨t1,p1,q1⟩:=he;obtain⟨t2,p2,q2⟩:=hl;obtain⟨t3,p3,q3⟩:=hh;refine⟨_,F4 (mW.or (oP.or Fb)) p1 p2 p3,fun ρ σ G0 H0 G H Q P E h k=>q1 ρ σ G0 H0 G H _ _ E h fun v H' r G' x rr hq=>?_⟩;obtain⟨G1,x1,rv,_⟩:=rr.freeze x;refine q2 ρ σ G0 H0 G1 H' _ _ (E.ext x1) hq fun lo H2 G2 x2 j1=>?_
 refine q3 ρ σ G0 H0 G2 H2 _ _ ((E.ext x1).ext x2) j1 fun hi H3 G3 x3 i4=>?_
 have mT:=(x1.trans x2).trans x3;have lq:=(rv.mono x2.g).mono x3.g;split at i4
 ·rename_i ds e1;rw[e1] at lq;simp only[Rep] at lq;obtain⟨a,xs,rfl,h1,h2⟩:=lq;refine .inl ⟨a,xs,rfl,(mT.s.c9 h1).sq,fun p hp=>?_⟩;exact k _ _ (.ow _) G3 (mT.trans (.own mT.s hp)) ⟨p,_,rfl,mT.h.free hp,mT.s.free hp,fq,Az h2 lo hi⟩ i4
 ·rename_i z e1;rw[e1] at lq;simp only[Rep] at lq;exact .inr (.inl ⟨z,lq,i4.1,k _ _ _ G3 mT (ee (pN _ _ _)) i4.2⟩)
 ·rename_i ds e1;rw[e1] at lq;simp only[Rep] at lq;obtain⟨a,xs,rfl,h1,h2⟩:=lq;refine .inr (.inr ⟨a,xs,rfl,mT.s.iY h1,by rw[h2.length];exact i4.1,fun p hp=>?_⟩);have x4:Ext G3 H3 (upd G3 p (.tup (l0 xs lo hi))) (upd H3 p (.tup (l0 xs lo hi))):=.new mT.s hp;refine k _ _ (.fz _) _ (mT.trans x4) ?_ i4.2;show Rep X.K _ _ (.tup _);simp only[Rep];exact⟨p,_,rfl,fq,(Az h2 lo hi).mono x4.g⟩
 ·exact i4.elim
def gX:cI:=fun ds Q=>match ds with
 | [.lst es]=>Q (.fz (.int es.length))
 | [.tup es]=>Q (.fz (.int es.length))
 | [.str z]=>z.length<=sizeLine/\Q (.fz (.int z.length))
 | _=>False
theorem jm:kY X (.builtin "len") gX:=by
 refine⟨_,ir.or Iy,fun G H vs ds Q P s rs h k=>?_⟩;unfold gX at h;split at h
 ·obtain⟨v,rfl,rv⟩:=gN rs;simp only[Rep] at rv;obtain⟨a,xs,rfl,h1,h2⟩:=rv;refine .inl ⟨a,xs,rfl,.inl ((s.c9 h1).sq),?_⟩;rw[h2.length];exact k _ _ _ G (.refl s) (ee (gm _ _ _)) h
 ·obtain⟨v,rfl,rv⟩:=gN rs;simp only[Rep] at rv;obtain⟨a,xs,rfl,h1,h2⟩:=rv;refine .inl ⟨a,xs,rfl,.inr (s.iY h1),?_⟩;rw[h2.length];exact k _ _ _ G (.refl s) (ee (gm _ _ _)) h
 ·obtain⟨v,rfl,rv⟩:=gN rs;simp only[Rep] at rv;subst rv;exact .inr ⟨_,rfl,h.1,k _ _ _ G (.refl s) (ee (gm _ _ _)) h.2⟩
 ·exact h.elim
noncomputable def ib:List D->Option (List Bool)
 | []=>some []
 | .bl b::r=>(ib r).map (b::·)
 | _=>none
theorem wK:∀{ds:List D} {bs:List Bool},ib ds=some bs->ds=bs.map D.bl
 | [],bs,h=>by simp[ib] at h;subst h;rfl
 | .bl b::r,bs,h=>by
  simp only[ib,Option.map_eq_some_iff] at h;obtain⟨CG,h1,rfl⟩:=h;rw[wK h1];rfl
 | .non::r,bs,h=>by simp[ib] at h
 | .int _::r,bs,h=>by simp[ib] at h
 | .str _::r,bs,h=>by simp[ib] at h
 | .tup _::r,bs,h=>by simp[ib] at h
 | .lst _::r,bs,h=>by simp[ib] at h
 | .obj _ _::r,bs,h=>by simp[ib] at h
 | .dic _::r,bs,h=>by simp[ib] at h
 | .dit _::r,bs,h=>by simp[ib] at h
 | .exc _::r,bs,h=>by simp[ib] at h
theorem v3{K:PySem.W.Frag}{G:Hp}:∀{bs:List Bool} {vs:List V},bc K G vs (bs.map D.bl)->vs=bs.map V.bl
 | [],[],_=>rfl
 | b::bs,v::vs,h=>by
  simp only[av,bc,Rep] at h;rw[h.1,v3 h.2];rfl
 | [],_::_,h=>by simp only[aW,bc] at h
 | _::_,[],h=>by simp only[av,bc] at h
theorem AH{bs:List Bool}{us:List Value}(h:Vals (bs.map V.bl) us){i:Nat}{v:Value}(hv:us[i]?=some v):∃b,bs[i]?=some b/\v=.bool b:=by
 have hl:=h.length;have hi:i<us.length:=(ax.mp hv).1;have Cf:i<bs.length:=by rw[af] at hl;omega
 obtain⟨u,hu,ru⟩:=h.get (i:=i) (x:=V.bl bs[i]) (by simp[Cf]);rw[hv] at hu;cases hu;exact⟨bs[i],by simp[Cf],ru⟩
theorem Ay{s:Shared}{h':Heap}{o:Obj}(hk:∀b x,b∉[s.heap.objs.size]->(s.heap.push o).get? b=some x->h'.get? b=some x):∀b x,s.heap.get? b=some x->h'.get? b=some x:=
 fun b x e=>hk b x (fun hm=>by rw[aD.mp hm] at e;exact Nat.lt_irrefl _ (aj e)) (ae _ e)
theorem Fm(bs:List Bool):((List.range bs.length).all fun i=>(bs[i]?).getD true)=bs.all id:=by
 rw[Bool.eq_iff_iff];simp only[List.all_eq_true,List.mem_range,id];constructor
 ·intro h b hb;obtain⟨i,hi,rfl⟩:=List.mem_iff_getElem.mp hb;simpa[hi] using h i hi
 ·intro h i hi;simpa[hi] using h _ (List.getElem_mem hi)
theorem Fl(bs:List Bool):((List.range bs.length).any fun i=>(bs[i]?).getD false)=bs.any id:=by
 rw[Bool.eq_iff_iff];simp only[List.any_eq_true,List.mem_range,id];constructor
 ·rintro⟨i,hi,h⟩;exact⟨bs[i],List.getElem_mem hi,by simpa[hi] using h⟩
 ·rintro⟨b,hb,h⟩;obtain⟨i,hi,rfl⟩:=List.mem_iff_getElem.mp hb;exact⟨i,hi,by simpa[hi] using h⟩
theorem HW(hc:X.calm=true):cb X (.builtin "all") (fun xs H Q=>∃(p:Addr) (bs:List Bool),xs=[.ref p]/\cN X.K H p (bs.map V.bl)/\Q (.bl (bs.all id)) H):=by
 intro pins s σ H xs us Q I r h;obtain⟨p,bs,rfl,hq,q⟩:=h;obtain⟨u,rfl,ru⟩:=ie r;cases ru;obtain⟨its,rv,pl,hz⟩:=I.list hq;have dg:p<s.heap.objs.size:=by obtain⟨_,_,e,_⟩:=pl;exact aj e
 have hl:its.length=bs.length:=by rw[<-rv.length,af]
 refine call_all_walk (wpAny_pyIter_list pl.isList ?_);refine⟨s.heap.objs.size,[s.heap.objs.size,p],[s.heap.objs.size],its.toArray.size,_,_,fun i=>(bs[i]?).getD true,rfl,Walks.list (A:=X.A.in1) (I.ok.hd hc) _ p (az dg) its.toArray,
  ⟨⟨_,ao _ rfl,rfl,rfl⟩,pl.isList.push _⟩,fun i v s' Q' E' hP hQ=>?_,fun h' tk hk=>?_⟩
 ·obtain⟨b,e,rfl⟩:=AH rv (i:=i) (v:=v) (by simpa using hP);simp only[e,Option.getD_some] at hQ;exact wpAny_truthy_bool hQ
 ·rw[ah,hl,Fm];exact⟨.bl _,H,I.kept (Ay hk),rfl,q⟩
theorem HV(hc:X.calm=true):cb X (.builtin "any") (fun xs H Q=>∃(p:Addr) (bs:List Bool),xs=[.ref p]/\cN X.K H p (bs.map V.bl)/\Q (.bl (bs.any id)) H):=by
 intro pins s σ H xs us Q I r h;obtain⟨p,bs,rfl,hq,q⟩:=h;obtain⟨u,rfl,ru⟩:=ie r;cases ru;obtain⟨its,rv,pl,hz⟩:=I.list hq;have dg:p<s.heap.objs.size:=by obtain⟨_,_,e,_⟩:=pl;exact aj e
 have hl:its.length=bs.length:=by rw[<-rv.length,af]
 refine call_any_walk (wpAny_pyIter_list pl.isList ?_);refine⟨s.heap.objs.size,[s.heap.objs.size,p],[s.heap.objs.size],its.toArray.size,_,_,fun i=>(bs[i]?).getD false,rfl,Walks.list (A:=X.A.in1) (I.ok.hd hc) _ p (az dg) its.toArray,
  ⟨⟨_,ao _ rfl,rfl,rfl⟩,pl.isList.push _⟩,fun i v s' Q' E' hP hQ=>?_,fun h' tk hk=>?_⟩
 ·obtain⟨b,e,rfl⟩:=AH rv (i:=i) (v:=v) (by simpa using hP);simp only[e,Option.getD_some] at hQ;exact wpAny_truthy_bool hQ
 ·rw[ah,hl,Fl];exact⟨.bl _,H,I.kept (Ay hk),rfl,q⟩
def pE:cI:=fun ds Q=>match ds with
 | [.lst es]=>match ib es with
  | some bs=>Q (.fz (.bl (bs.all id)))
  | none=>False
 | _=>False
def tP:cI:=fun ds Q=>match ds with
 | [.lst es]=>match ib es with
  | some bs=>Q (.fz (.bl (bs.any id)))
  | none=>False
 | _=>False
theorem zy(hc:X.calm=true):kY X (.builtin "all") pE:=by
 refine⟨_,HW hc,fun G H vs ds Q P s rs h k=>?_⟩;unfold pE at h;split at h
 ·split at h
  ·rename_i es bs hb;obtain⟨v,rfl,rv⟩:=gN rs;simp only[Rep] at rv;obtain⟨a,xs,rfl,h1,h2⟩:=rv;rw[wK hb] at h2;rw[v3 h2] at h1;exact⟨a,bs,rfl,(s.c9 h1).sq,k _ _ _ G (.refl s) (ee (iR _ _ _)) h⟩
  ·exact h.elim
 ·exact h.elim
theorem C5(hc:X.calm=true):kY X (.builtin "any") tP:=by
 refine⟨_,HV hc,fun G H vs ds Q P s rs h k=>?_⟩;unfold tP at h;split at h
 ·split at h
  ·rename_i es bs hb;obtain⟨v,rfl,rv⟩:=gN rs;simp only[Rep] at rv;obtain⟨a,xs,rfl,h1,h2⟩:=rv;rw[wK hb] at h2;rw[v3 h2] at h1;exact⟨a,bs,rfl,(s.c9 h1).sq,k _ _ _ G (.refl s) (ee (iR _ _ _)) h⟩
  ·exact h.elim
 ·exact h.elim
end
end L2
namespace L2
open PySem PySem.Spec PyProof.Rows
section
variable {X:Cx} {pos:Pos} {e:Expr} {te:TD}
noncomputable def jr:D->String
 | .non=>"NoneType"
 | .bl _=>"bool"
 | .int _=>"int"
 | .str _=>"str"
 | .tup _=>"tuple"
 | .lst _=>"list"
 | .obj _ _=>"object"
 | .dic _=>"dict"
 | .dit _=>"dict"
 | .exc _=>"object"
noncomputable def mB(t T:String):Bool:=(t==T)||(t=="bool"&&T=="int")
theorem pK{K:PySem.W.Frag}{t T:String}(ht:t∈["NoneType","bool","int","str","tuple","list"])(hT:T∈["bool","int","str","tuple","list"]):PySem.W.kitOne K (.type t) (.type T)=some (mB t T):=by
 simp only[ai,aB,or_false] at ht hT;rcases ht with rfl | rfl | rfl | rfl | rfl | rfl<;>rcases hT with rfl | rfl | rfl | rfl | rfl<;>(first | rfl | decide | (unfold PySem.W.kitOne PySem.W.kitCls;decide +kernel))
noncomputable def tR:D->Bool
 | .obj _ _=>false
 | .dic _=>false
 | .dit _=>false
 | .exc _=>false
 | _=>true
theorem FR{T:String}(hT:T∈["bool","int","str","tuple","list"]):cb X (.builtin "isinstance") (fun xs H Q=>∃x d,xs=[x,.ty T]/\Rep X.K H x d/\tR d=true/\Q (.bl (mB (jr d) T)) H):=by
 intro pins s σ H xs us Q I r h;obtain⟨x,d,rfl,rd,ho,q⟩:=h;obtain⟨u,c,rfl,ru,rc⟩:=tX r;cases (show c=Value.type T from rc);have fin:∀tk,EP X pins σ Q (.bool (mB (jr d) T)) { s with toks:=tk }:=fun tk=>⟨.bl _,H,I.tok tk,rfl,q⟩
 cases d with
 | non=>simp only[Rep] at rd;subst rd;cases (show u=Value.none from ru);exact PySem.W.kia_one PySem.W.kitx_none I.iI True.intro (pK (by simp) hT) (fun z=>nomatch z) fin
 | bl y=>simp only[Rep] at rd;subst rd;cases (show u=Value.bool y from ru);exact PySem.W.kia_one PySem.W.kitx_bool I.iI True.intro (pK (by simp) hT) (fun z=>nomatch z) fin
 | int i=>simp only[Rep] at rd;subst rd;obtain⟨t,q'⟩:=(show ∃t,u=Value.int i t from ru);cases q';exact PySem.W.kia_one PySem.W.kitx_int I.iI True.intro (pK (by simp) hT) (fun z=>nomatch z) fin
 | str y=>simp only[Rep] at rd;subst rd;obtain⟨t,q'⟩:=(show ∃t,u=Value.str y t from ru);cases q';exact PySem.W.kia_one PySem.W.kitx_str I.iI True.intro (pK (by simp) hT) (fun z=>nomatch z) fin
 | tup ds=>
  simp only[Rep] at rd;obtain⟨a,xs,rfl,hq,_⟩:=rd;cases (show u=Value.ref a from ru);obtain⟨its,_,ht,_⟩:=I.tuple (da.of hq);obtain⟨o,h1,h2,_⟩:=ht;exact PySem.W.kia_one PySem.W.kitx_tuple I.iI ⟨o,h1,h2⟩ (pK (by simp) hT) (fun z=>nomatch z) fin
 | lst ds=>
  simp only[Rep] at rd;obtain⟨a,xs,rfl,hq,_⟩:=rd;cases (show u=Value.ref a from ru);obtain⟨its,_,ht,_⟩:=I.list hq.sq;obtain⟨o,n,h1,h2,_⟩:=ht;exact PySem.W.kia_one PySem.W.kitx_list I.iI ⟨o,h1,h2⟩ (pK (by simp) hT) (fun z=>nomatch z) fin
 | obj=>cases ho
 | dic=>cases ho
 | dit=>cases ho
 | exc=>cases ho
def oy(T:String)(te:TD):TD:=fun ρ Q=>te ρ fun r=>tR r.val=true/\Q (.fz (.bl (mB (jr r.val) T)))
theorem qQ{T:String}{TN:Str}{p p':Pos}(he:PD X e te)(hm:X.mg "isinstance"=none)(gV:X.mg TN=none)(hv:bootBuiltins TN=some (.type T))(hT:T∈["bool","int","str","tuple","list"]:=by decide)(hg:Gl X "isinstance":=by rfl)(kR:Gl X TN:=by rfl)(hn:TN≠"__name__":=by decide)
  (hd:(TN==("__debug__":Str))=false:=by decide) (gJ:starEach [e,Expr.Name TN p'] X.env=(false,eval e X.env)::starEach [Expr.Name TN p'] X.env:=by rfl) (yd:starEach [Expr.Name TN p'] X.env=(false,eval (.Name TN p') X.env)::starEach [] X.env:=by rfl)
  (dA:(backTo pos (starEach [Expr.Name TN p'] X.env)).any (·.1)=false:=by rfl):PD X (.Call (.Name "isinstance" p) [e,.Name TN p'] [] pos) (oy T te):=by
 obtain⟨t,pp,q⟩:=he;refine⟨_,wy (FR hT) hg hm boot_isinstance (mQ pp (mQ (Fh (v:=.ty T) kR gV hv rfl hn hd) nO yd) gJ) (by decide) (by decide) gJ dA,fun ρ σ G0 H0 G H Q P E h k=>q ρ σ G0 H0 G H _ _ E h fun v H' r G' x rr hq=>?_⟩;obtain⟨G2,x2,rv,_⟩:=rr.freeze x;exact⟨v,r.val,rfl,rv.mono x2.s,hq.1,k _ _ _ G2 x2 (ee (iR _ _ _)) hq.2⟩
end
end L2
namespace L2
open PySem PySem.Spec PyProof.Rows
section
variable {P:Program} {w:World} {K:PySem.W.Frag} {mg:Str->Option Value} {base:Heap}
structure Known (P:Program) (w:World) (K:PySem.W.Frag) (mg:Str->Option Value) (base:Heap) (k:Nat) (x:Str) (n:Nat) (t:cI):Prop where
 ex:∃(f:Addr) (fd:FuncData) (ps:List Str),eT P w K mg base iO k f fd ps (pz K n t)/\mg x=some (.ref f)/\PySem.W.keepIn K (.ref f)=true/\Binds K fd ps []
structure At (K:PySem.W.Frag) (mg:Str->Option Value) (x:Str) (st:Stmt):Prop where
 ex:∃(f:Addr) (fd:FuncData),vn K x x st f fd/\mg x=some (.ref f)
theorem tG{h:Heap}{x:Str}{st:Stmt}{f:Addr}{oc:Value}{od an:Option Addr}{js:Array (Option Value)}{kV doc pm bM ct:Value}(X:K.In h)(G:h.Ns mainGlobals mg)(a:PySem.W.nsIn K mainGlobals x=some (some (.ref f)))
  (l:K.lookup f=some ⟨oc,od,.func (PySem.W.fnOf x x (cD st) (bN st) (bf st) .none kV doc pm an bM ct),js⟩) (c:PySem.W.codeIn K bM x=true) (k:PySem.W.keepIn K (.ref f)=true):At K mg x st:=
 ⟨f,_,vT l c k,PySem.W.mg_of X G a⟩
end
section
variable {X:Cx} {k k' n:Nat} {t:cI} {x:Str} {p pos:Pos} {e:Expr} {es:List Expr} {ts:fU}
theorem ei(C:Known X.prog X.w X.K X.mg X.base k x n t)(hr:cm k' X.A)(ha:iN X (e::es) ts)(hk:k<=k':=by decide)(hg:Gl X x:=by rfl)(il:(x==("__debug__":Str))=false:=by decide)
  (he:starEach (e::es) X.env=(false,eval e X.env)::starEach es X.env:=by rfl) (dA:(backTo pos (starEach es X.env)).any (·.1)=false:=by rfl):PD X (.Call (.Name x p) (e::es) [] pos) (dy n t ts):=by
 obtain⟨f,fd,ps,F,hm,kp,hb⟩:=C.ex;exact Fn F (hr.mono hk) hm kp hb ha hg il he dA
end
noncomputable def Ax(kindOf:Str->Option NameKind)(N N':List Str)(m:List (Option Nat))(scope:Scope):Bool:=
 (scope.kind==.function)&&(m.length==N'.length)&&(scope.names.all fun y=>scope.names.lookup y.1==some y.2) &&
 (scope.names.all fun y=>y.2 != .free||kindOf y.1==some .cell||kindOf y.1==some .free) &&
 ((m.zip N').all fun p=>match p.1 with
   | none=>true
   | some j=>N[j]?==some p.2&&scope.names.lookup p.2==some .free)
theorem bU.of{X:Cx}{N':List Str}{m:List (Option Nat)}{scope:Scope}(h:Ax X.env.kindOf X.N N' m scope=true):bU X N' m scope:=by
 unfold Ax at h;simp only[Bool.and_eq_true,beq_iff_eq,List.all_eq_true,Bool.or_eq_true,bne_iff_ne,ne_eq] at h;obtain⟨⟨⟨⟨h1,h2⟩,h3⟩,h5⟩,h6⟩:=h;refine⟨h1,h2,fun y hy=>h3 y hy,fun y hy e=>?_,fun i j x hm hN=>?_⟩
 ·rcases h5 y hy with(z | z) | z
  ·exact absurd e z
  ·exact .inl z
  ·exact .inr z
 ·have hz:(some j,x)∈m.zip N':=by
   apply List.mem_of_getElem? (i:=i);rw[List.getElem?_zip_eq_some];exact⟨hm,hN⟩
  have:=h6 _ hz;simpa using this
theorem Iu{K:PySem.W.Frag}{G:Hp}{a:Addr}{ns:List Int}(h:gC K G a (ns.map V.int)):Rep K G (.ref a) (.lst (ns.map D.int)):=by
 simp only[Rep];refine⟨a,_,rfl,h,?_⟩;clear h;induction ns with
 | nil=>exact bc.nil
 | cons n r ih=>exact bc.cons (gm _ _ _) ih
def vJ(n:Nat):cI:=fun ds Q=>∃ns:List Int,ds=[.lst (ns.map .int)]/\ns.length<=n/\Q (.fz (.bl true))
theorem kx{l:PySem.W.OpenLaw}{n k:Nat}{q:Program}{loose:List Str}{XP:(Str->Option Value)->Heap->Prop}{YP:World->Heap->Prop}{d:DefRec}{K:Params->PySem.W.Frag}{x:Str}
  (hn:l.most=some n) (uW:n<=sizeLine) (yG:d.params.defaults=[]) (hr:cm k callerA) (hY:∀(w:World) (h:Heap),YP w h->(K w.params).In h)
  (F:∀(w:World) (mg:Str->Option Value) (fa:Addr) (h:Heap),(K w.params).In h->h.Ns mainGlobals mg->mg d.name=some (.ref fa)->
   ∃fd:FuncData,(∀(s:Shared) (u:Value),BindsTo s fd ⟨[u],[]⟩ [(x,u)])/\∀base:Heap,eT l.prog w (K w.params) mg base iO k fa fd [x] (pz (K w.params) 1 (vJ n))) :
  PySem.W.WalkO q loose XP YP l.row.toRowW d [] (fun f vs=>PySem.call f vs):=by
 refine CO.jb hn yG fun w cT bI mg mb fa o pm cd doc a vs ns G Y ho hd fL nk nh hints hlen hg=>?_
 have KX:=hY w _ Y;obtain⟨fd,hb,hF⟩:=F w mg fa _ KX G.T.g nk;refine F1 KX G.T.g G.T.b G.T.builtins G.T.nolimit hg nh hints (aJ hlen uW) hr (fun base _ _=>hF base) hb (fun H hO hS=>?_) fun H e s' z=>z
 have hL:gC (K w.params) H a (ns.map V.int):=by
  rcases hS with hS | ⟨o,its,m,h1,h2,h3,h4,h5,h6⟩
  ·exact .inl hS
  ·have e:=KX a o h1;rw[nh] at e;cases e;have LQ:Data.seq vs.toArray _=Data.seq its m:=h4;injection LQ with e1 e2
   subst e1;exact .inr ⟨_,_,h1,h5,h6⟩
 refine⟨H,[.lst (ns.map .int)],fun r=>r=.fz (.bl true),bw.refl _,bc.cons (Iu hL) bc.nil,rfl,⟨ns,rfl,hlen,rfl⟩,fun v H' r G' _ rr e=>?_⟩;subst e;simpa only[cP,Rep] using rr
theorem DO{P:Program}{w:World}{K:PySem.W.Frag}{mg:Str->Option Value}{st:Stmt}{N:List Str}{x:Str}{k:Nat}{t:cI}{T:Heap->TX}{fa:Addr}(DA:At K mg "law" st)(nk:mg "law"=some (.ref fa))(S:br N [x] (bf st))
  (hb:∀(kV doc pm:Value) (an:Option Addr) (bM ct:Value) (us:List Value),us.length=1->bindArgs (PySem.W.fnOf "law" "law" (cD st) (bN st) (bf st) .none kV doc pm an bM ct) ⟨us,[]⟩=pure ([x].zip us))
  (body:∀(base:Heap) (f:Addr) (bM:Value) (A:Around) (outer:List Env) (s:Shared) (H:Hp) (E:XK),cm k (A.deeper (envOfC "law" (bf st) s.heap.objs.size f bM))->j8 (kJ iO P w K mg base N "law" (bf st) f bM A outer s H E).mn (bN st) (T base))
  (spec:∀(base:Heap) (ds:List D) (Qr:R->Prop),ds.length=1->t ds Qr->T base { nx:=fun _=>Qr (.fz .non),rt:=Qr } (eW N ds)) :
  ∃fd:FuncData,(∀(s:Shared) (u:Value),BindsTo s fd ⟨[u],[]⟩ [(x,u)])/\∀base:Heap,eT P w K mg base iO (k+1) fa fd [x] (pz K 1 t):=by
 obtain⟨f,fd,F,hm⟩:=DA.ex;rw[nk] at hm;cases hm;refine⟨fd,fun s u=>?_,fun base=>v7 F S (body base fa) (spec base)⟩;obtain⟨oc,od,kV,doc,pm,an,bM,ct,js,rfl,lk,fL⟩:=F.ex;exact .of_eq (hb kV doc pm an bM ct [u] rfl)
end L2
namespace L2
open PySem PySem.Spec PyProof.Rows
def qC(i:Nat)(t:TX):TX:=fun D ρ=>t D (hX i ρ)
theorem k7(d:D):(R.fz d).val=d:=rfl
theorem pJ(ds:List D):(R.ow ds).val=.lst ds:=rfl
theorem C4(d:D):(R.fz d).sl=.fz d:=rfl
theorem C3(ds:List D):(R.ow ds).sl=.ow ds:=rfl
theorem Aw{α:Type}{wi:jc}{m:List (Option Nat)}{g:fT}{tc:gK}{te:TD}{ρ:Ev}{Q:R->Prop}(L:List α)(φ:α->D)(f:α->Option D)(hw:∀Q':List D->Prop,Q' (L.map φ)->wi ρ Q')(hl:L.length<=sizeLine)
  (h:∀x∈L,∀(K1:D->Prop) (K0:Prop),(∀e,f x=some e->K1 e)->(f x=none->K0)->g (φ x) (gH m ρ) fun dw=>tc dw fun b=>if b=true then te dw fun r=>K1 r.val else K0)
  (q:Q (.ow (L.filterMap f))):et wi m g tc te ρ Q:=by
 refine hw _ ⟨fun i acc=>acc=(L.take i).filterMap f,rfl,fun i d acc hd ha=>?_,fun acc ha=>?_⟩
 ·rw[aK] at hd;cases hx:L[i]? with
  | none=>rw[hx] at hd;cases hd
  | some x=>
   rw[hx] at hd;cases hd;have hi:i<L.length:=(ax.mp hx).1;have e:L.take (i+1)=L.take i++[x]:=by rw[List.take_add_one,hx];rfl
   have hlen:acc.length<sizeLine:=by
    rw[ha];refine Nat.lt_of_le_of_lt (List.length_filterMap_le _ _) ?_;rw[aL];omega
   exact h x (List.mem_of_getElem? hx) (fun e=>acc.length<sizeLine/\acc++[e]=(L.take (i+1)).filterMap f) (acc=(L.take (i+1)).filterMap f)
    (fun z hz=>⟨hlen,by rw[e,List.filterMap_append,ha];simp[hz]⟩) (fun hz=>by rw[e,List.filterMap_append,ha];simp[hz])
 ·dsimp only at ha;rw[af,List.take_length] at ha;rw[ha];exact q
theorem kq{α:Type}{wi:jc}{m:List (Option Nat)}{g:fT}{te:TD}{ρ:Ev}{Q:R->Prop}(L:List α)(φ f:α->D)(hw:∀Q':List D->Prop,Q' (L.map φ)->wi ρ Q')(hl:L.length<=sizeLine)
  (h:∀x∈L,∀(K1:D->Prop),K1 (f x)->g (φ x) (gH m ρ) fun dw=>te dw fun r=>K1 r.val) (q:Q (.ow (L.map f))):et wi m g gY te ρ Q:=by
 refine Aw L φ (fun x=>some (f x)) hw hl (fun x hx K1 K0 h1 _=>?_) ?_
 ·have:=h x hx K1 (h1 _ rfl);simpa[gY] using this
 ·have e:L.filterMap (fun x=>some (f x))=L.map f:=by
   induction L with
   | nil=>rfl
   | cons a r ih=>simp
  rw[e];exact q
theorem mh{α:Type}{wi:jc}{m:List (Option Nat)}{g:fT}{tc:gK}{te:TD}{ρ:Ev}{Q:R->Prop}(L:List α)(φ f:α->D)(p:α->Bool)(hw:∀Q':List D->Prop,Q' (L.map φ)->wi ρ Q')(hl:L.length<=sizeLine)
  (h:∀x∈L,∀(K1:D->Prop) (K0:Prop),(p x=true->K1 (f x))->(p x=false->K0)->g (φ x) (gH m ρ) fun dw=>tc dw fun b=>if b=true then te dw fun r=>K1 r.val else K0)
  (q:Q (.ow ((L.filter p).map f))):et wi m g tc te ρ Q:=by
 refine Aw L φ (fun x=>if p x=true then some (f x) else none) hw hl (fun x hx K1 K0 h1 h0=>h x hx K1 K0 (fun z=>h1 _ (by simp[z])) (fun z=>h0 (by simp[z]))) ?_;have e:L.filterMap (fun x=>if p x=true then some (f x) else none)=(L.filter p).map f:=by
  clear h hl hw q;induction L with
  | nil=>rfl
  | cons a r ih=>by_cases z:p a=true<;>simp[z,ih]
 rw[e];exact q
theorem AG{wi:jc}{g:fT}{tb:TX}{D:DE}{ρ:Ev}(ds:List L2.D)(hw:∀Q':List L2.D->Prop,Q' ds->wi ρ Q')(Iv:Nat->Ev->Prop)(h0:Iv 0 ρ)
  (turn:∀i d ρ',ds[i]?=some d->Iv i ρ'->g d ρ' fun dw=>tb { D with nx:=Iv (i+1),ct:=Iv (i+1),bk:=D.nx } dw) (fin:∀ρ',Iv ds.length ρ'->D.nx ρ'):gZ wi g tb D ρ:=hw _ ⟨Iv,h0,turn,fin⟩
theorem qX{α:Type}{wi:jc}{g:fT}{tb:TX}{D:DE}{ρ:Ev}(L:List α)(φ:α->L2.D)(hw:∀Q':List L2.D->Prop,Q' (L.map φ)->wi ρ Q')(Iv:Nat->Ev->Prop)(h0:Iv 0 ρ)
  (turn:∀i x ρ',L[i]?=some x->Iv i ρ'->g (φ x) ρ' fun dw=>tb { D with nx:=Iv (i+1),ct:=Iv (i+1),bk:=D.nx } dw) (fin:∀ρ',Iv L.length ρ'->D.nx ρ'):gZ wi g tb D ρ:=by
 refine AG (L.map φ) hw Iv h0 (fun i d ρ' hd iv=>?_) (fun ρ' iv=>fin ρ' (by simpa using iv));rw[aK] at hd;cases hx:L[i]? with
 | none=>rw[hx] at hd;cases hd
 | some x=>rw[hx] at hd;cases hd;exact turn i x ρ' hx iv
theorem p7{g:fT}{tb:TX}{D:DE}{ρ:Ev}{wi:jc}(n:Nat)(hw:∀Q':List L2.D->Prop,Q' ((List.range n).map fun(i:Nat)=>.int (0+i))->wi ρ Q')(Iv:Nat->Ev->Prop)(h0:Iv 0 ρ)
  (turn:∀(i:Nat) ρ',i<n->Iv i ρ'->g (.int i) ρ' fun dw=>tb { D with nx:=Iv (i+1),ct:=Iv (i+1),bk:=D.nx } dw) (fin:∀ρ',Iv n ρ'->D.nx ρ'):gZ wi g tb D ρ:=by
 refine qX (List.range n) (fun(i:Nat)=>.int (0+i)) hw Iv h0 (fun i x ρ' hx iv=>?_) (fun ρ' iv=>fin ρ' (by simpa using iv));obtain⟨h1,h2⟩:=ax.mp hx;have h3:i<n:=by simpa using h1
 have h4:x=i:=by rw[<-h2];simp
 subst h4;rw[Int.zero_add];exact turn x ρ' h3 iv
theorem KH:(10:Int) ^ Int.toNat 24=1000000000000000000000000:=by decide
theorem KG:(10:Int) ^ Int.toNat 30=1000000000000000000000000000000:=by decide
theorem DN:l3 10 24=True:=by simp only[l3,eq_iff_iff,iff_true];decide
theorem DM:l3 10 30=True:=by simp only[l3,eq_iff_iff,iff_true];decide
theorem ur:100000<=sizeLine:=by decide
end L2
namespace L2
open PySem PySem.Spec PyProof.Rows
section
variable {X:Cx} {pos:Pos} {e:Expr} {te:TD} {es:List Expr} {ts:fU}
def pD(t:TD):TD:=fun ρ Q=>t ρ fun r=>match r.val with
 | .int i=>Q (.fz (.int (-i)))
 | _=>False
theorem t7(h:PD X e te):PD X (.UnaryOp .USub e pos) (pD te):=by
 obtain⟨t,p,q⟩:=h;refine⟨_,Ef EC p,fun ρ σ G0 H0 G H Q P E h k=>q ρ σ G0 H0 G H _ _ E h fun v H' r G' x rr hq=>?_⟩;obtain⟨G2,x2,rv,_⟩:=rr.freeze x;split at hq
 ·rename_i i e1;rw[e1] at rv;simp only[Rep] at rv;exact⟨i,rv,k _ _ _ G2 x2 (ee (gm _ _ _)) hq⟩
 ·exact hq.elim
def kg:cI:=fun ds Q=>match ds with
 | [.lst es]=>Q (.ow es)
 | [.tup es]=>Q (.ow es)
 | _=>False
theorem mK:kY X (.type "list") kg:=by
 refine⟨_,BE,fun G H vs ds Q P s rs h k=>?_⟩;unfold kg at h;split at h
 ·obtain⟨v,rfl,rv⟩:=gN rs;simp only[Rep] at rv;obtain⟨a,xs,rfl,h1,h2⟩:=rv;exact⟨a,xs,rfl,.inl (s.c9 h1).sq,nQ s h2 h k⟩
 ·obtain⟨v,rfl,rv⟩:=gN rs;simp only[Rep] at rv;obtain⟨a,xs,rfl,h1,h2⟩:=rv;exact⟨a,xs,rfl,.inr (s.iY h1),nQ s h2 h k⟩
 ·exact h.elim
def tO:cI:=fun ds Q=>match ds with
 | [.int i]=>Q (.fz (.int i))
 | [.bl b]=>Q (.fz (.int (if b then 1 else 0)))
 | _=>False
theorem C2:kY X (.type "int") tO:=by
 refine⟨_,Hq,fun G H vs ds Q P s rs h k=>?_⟩;unfold tO at h;split at h
 ·obtain⟨v,rfl,rv⟩:=gN rs;simp only[Rep] at rv;subst rv;exact .inl ⟨_,rfl,k _ _ _ G (.refl s) (ee (gm _ _ _)) h⟩
 ·obtain⟨v,rfl,rv⟩:=gN rs;simp only[Rep] at rv;subst rv;exact .inr ⟨_,rfl,k _ _ _ G (.refl s) (ee (gm _ _ _)) h⟩
 ·exact h.elim
noncomputable def hE:List D->Option (List Int)
 | []=>some []
 | .int b::r=>(hE r).map (b::·)
 | _=>none
theorem pZ:∀{ds:List D} {bs:List Int},hE ds=some bs->ds=bs.map D.int
 | [],bs,h=>by simp[hE] at h;subst h;rfl
 | .int b::r,bs,h=>by
  simp only[hE,Option.map_eq_some_iff] at h;obtain⟨CG,h1,rfl⟩:=h;rw[pZ h1];rfl
 | .non::r,bs,h=>by simp[hE] at h
 | .bl _::r,bs,h=>by simp[hE] at h
 | .str _::r,bs,h=>by simp[hE] at h
 | .tup _::r,bs,h=>by simp[hE] at h
 | .lst _::r,bs,h=>by simp[hE] at h
 | .obj _ _::r,bs,h=>by simp[hE] at h
 | .dic _::r,bs,h=>by simp[hE] at h
 | .dit _::r,bs,h=>by simp[hE] at h
 | .exc _::r,bs,h=>by simp[hE] at h
theorem pY(bs:List Int):hE (bs.map D.int)=some bs:=by
 induction bs with
 | nil=>rfl
 | cons b r ih=>simp[hE,ih]
theorem pT{K:PySem.W.Frag}{G:Hp}:∀{bs:List Int} {vs:List V},bc K G vs (bs.map D.int)->vs=bs.map V.int
 | [],[],_=>rfl
 | b::bs,v::vs,h=>by
  simp only[av,bc,Rep] at h;rw[h.1,pT h.2];rfl
 | [],_::_,h=>by simp only[aW,bc] at h
 | _::_,[],h=>by simp only[av,bc] at h
theorem w5{vs:List Value}{ns:List Int}(hi:IntsAre vs ns):∃xs:Array (Int×Tok),vs.toArray=intItems xs/\ns=xs.toList.map (·.1):=by
 obtain⟨xs,e⟩:=hi.allInts.items;exact⟨xs,e,by rw[<-hi.numsOf,<-nums_intItems,<-e]⟩
theorem HU(hc:X.calm=true):cb X (.builtin "sum") (fun xs H Q=>∃(p:Addr) (ns:List Int),xs=[.ref p]/\cN X.K H p (ns.map V.int)/\Q (.int ns.sum) H):=by
 intro pins s σ H xs us Q I r h;obtain⟨p,ns,rfl,hq,q⟩:=h;obtain⟨u,rfl,ru⟩:=ie r;cases ru;obtain⟨its,rv,pl,hz⟩:=I.list hq;obtain⟨ys,e,j2⟩:=w5 (rL rv);have hl:=pl.isList;rw[e] at hl;refine sum_intListG (I.ok.hd hc) hl fun h' tk t' hk=>?_
 have e2:preSum (numAt ys) ys.size=ns.sum:=by
  rw[preSum_eq,List.take_of_length_le (by simp),j2]
 rw[e2];exact⟨.int _,H,I.kept hk,⟨_,rfl⟩,q⟩
theorem GR(hc:X.calm=true):cb X (.builtin "min") (fun xs H Q=>∃(p:Addr) (ns:List Int),xs=[.ref p]/\cN X.K H p (ns.map V.int)/\ns≠[]/\∀M,M∈ns->(∀a∈ns,M<=a)->Q (.int M) H):=by
 intro pins s σ H xs us Q I r h;obtain⟨p,ns,rfl,hq,cH,q⟩:=h;obtain⟨u,rfl,ru⟩:=ie r;cases ru;obtain⟨its,rv,pl,hz⟩:=I.list hq;obtain⟨ys,e,j2⟩:=w5 (rL rv);have hl:=pl.isList;rw[e] at hl;have d0:0<ys.size:=by
  cases sF:ys.toList with
  | nil=>rw[j2,sF] at cH;exact absurd rfl cH
  | cons a b=>have:ys.toList.length=b.length+1:=by rw[sF];rfl
              rw[ak] at this;omega
 refine min_intList (I.ok.hd hc) hl d0 fun v h' tk hv hk=>?_
 obtain⟨t,rfl⟩:=intItems_at hv;obtain⟨h1,h2⟩:=argBest_lt (numAt ys) (ys.size-1);refine⟨.int _,H,I.kept hk,⟨_,rfl⟩,q _ ?_ fun a ha=>?_⟩
 ·rw[j2,numAt_eq];exact getD_mem (by rw[af,ak];omega)
 ·rw[j2] at ha;obtain⟨j,hj,rfl⟩:=mem_getD ha;rw[af,ak] at hj;rw[<-numAt_eq];exact h2 j (by omega)
theorem GQ(hc:X.calm=true):cb X (.builtin "max") (fun xs H Q=>∃(p:Addr) (ns:List Int),xs=[.ref p]/\cN X.K H p (ns.map V.int)/\ns≠[]/\∀M,M∈ns->(∀a∈ns,a<=M)->Q (.int M) H):=by
 intro pins s σ H xs us Q I r h;obtain⟨p,ns,rfl,hq,cH,q⟩:=h;obtain⟨u,rfl,ru⟩:=ie r;cases ru;obtain⟨its,rv,pl,hz⟩:=I.list hq;obtain⟨ys,e,j2⟩:=w5 (rL rv);have hl:=pl.isList;rw[e] at hl;have d0:0<ys.size:=by
  cases sF:ys.toList with
  | nil=>rw[j2,sF] at cH;exact absurd rfl cH
  | cons a b=>have:ys.toList.length=b.length+1:=by rw[sF];rfl
              rw[ak] at this;omega
 refine max_intList (I.ok.hd hc) hl d0 fun v h' tk hv hk=>?_
 obtain⟨t,rfl⟩:=intItems_at hv;obtain⟨h1,h2⟩:=argBest_gt (numAt ys) (ys.size-1);refine⟨.int _,H,I.kept hk,⟨_,rfl⟩,q _ ?_ fun a ha=>?_⟩
 ·rw[j2,numAt_eq];exact getD_mem (by rw[af,ak];omega)
 ·rw[j2] at ha;obtain⟨j,hj,rfl⟩:=mem_getD ha;rw[af,ak] at hj;rw[<-numAt_eq];exact h2 j (by omega)
def pC:cI:=fun ds Q=>match ds with
 | [.lst es]=>match hE es with
  | some ns=>Q (.fz (.int ns.sum))
  | none=>False
 | _=>False
theorem vI(hc:X.calm=true):kY X (.builtin "sum") pC:=by
 refine⟨_,HU hc,fun G H vs ds Q P s rs h k=>?_⟩;unfold pC at h;split at h
 ·split at h
  ·rename_i es bs hb;obtain⟨v,rfl,rv⟩:=gN rs;simp only[Rep] at rv;obtain⟨a,xs,rfl,h1,h2⟩:=rv;rw[pZ hb] at h2;rw[pT h2] at h1;exact⟨a,bs,rfl,(s.c9 h1).sq,k _ _ _ G (.refl s) (ee (gm _ _ _)) h⟩
  ·exact h.elim
 ·exact h.elim
def pB:cI:=fun ds Q=>match ds with
 | [.lst es]=>match hE es with
  | some ns=>ns≠[]/\∀M,M∈ns->(∀a∈ns,M<=a)->Q (.fz (.int M))
  | none=>False
 | [.int i,.int j]=>Q (.fz (.int (if j<i then j else i)))
 | _=>False
def my:cI:=fun ds Q=>match ds with
 | [.lst es]=>match hE es with
  | some ns=>ns≠[]/\∀M,M∈ns->(∀a∈ns,a<=M)->Q (.fz (.int M))
  | none=>False
 | [.int i,.int j]=>Q (.fz (.int (if j>i then j else i)))
 | _=>False
theorem zx(hc:X.calm=true):kY X (.builtin "min") pB:=by
 refine⟨_,(GR hc).or (Hr hc),fun G H vs ds Q P s rs h k=>?_⟩;unfold pB at h;split at h
 ·split at h
  ·rename_i es bs hb;obtain⟨v,rfl,rv⟩:=gN rs;simp only[Rep] at rv;obtain⟨a,xs,rfl,h1,h2⟩:=rv;rw[pZ hb] at h2;rw[pT h2] at h1;exact .inl ⟨a,bs,rfl,(s.c9 h1).sq,h.1,fun M h3 h4=>k _ _ _ G (.refl s) (ee (gm _ _ _)) (h.2 M h3 h4)⟩
  ·exact h.elim
 ·obtain⟨v,u,rfl,rv,ru⟩:=vD rs;simp only[Rep] at rv ru;subst rv ru;exact .inr ⟨_,_,rfl,k _ _ _ G (.refl s) (ee (gm _ _ _)) h⟩
 ·exact h.elim
theorem vH(hc:X.calm=true):kY X (.builtin "max") my:=by
 refine⟨_,(GQ hc).or (Hs hc),fun G H vs ds Q P s rs h k=>?_⟩;unfold my at h;split at h
 ·split at h
  ·rename_i es bs hb;obtain⟨v,rfl,rv⟩:=gN rs;simp only[Rep] at rv;obtain⟨a,xs,rfl,h1,h2⟩:=rv;rw[pZ hb] at h2;rw[pT h2] at h1;exact .inl ⟨a,bs,rfl,(s.c9 h1).sq,h.1,fun M h3 h4=>k _ _ _ G (.refl s) (ee (gm _ _ _)) (h.2 M h3 h4)⟩
  ·exact h.elim
 ·obtain⟨v,u,rfl,rv,ru⟩:=vD rs;simp only[Rep] at rv ru;subst rv ru;exact .inr ⟨_,_,rfl,k _ _ _ G (.refl s) (ee (gm _ _ _)) h⟩
 ·exact h.elim
noncomputable def iQ:List D->Option (List Str)
 | []=>some []
 | .str b::r=>(iQ r).map (b::·)
 | _=>none
theorem wZ:∀{ds:List D} {bs:List Str},iQ ds=some bs->ds=bs.map D.str
 | [],bs,h=>by simp[iQ] at h;subst h;rfl
 | .str b::r,bs,h=>by
  simp only[iQ,Option.map_eq_some_iff] at h;obtain⟨CG,h1,rfl⟩:=h;rw[wZ h1];rfl
 | .non::r,bs,h=>by simp[iQ] at h
 | .bl _::r,bs,h=>by simp[iQ] at h
 | .int _::r,bs,h=>by simp[iQ] at h
 | .tup _::r,bs,h=>by simp[iQ] at h
 | .lst _::r,bs,h=>by simp[iQ] at h
 | .obj _ _::r,bs,h=>by simp[iQ] at h
 | .dic _::r,bs,h=>by simp[iQ] at h
 | .dit _::r,bs,h=>by simp[iQ] at h
 | .exc _::r,bs,h=>by simp[iQ] at h
theorem rK(bs:List Str):iQ (bs.map D.str)=some bs:=by
 induction bs with
 | nil=>rfl
 | cons b r ih=>simp[iQ,ih]
theorem wm{K:PySem.W.Frag}{G:Hp}:∀{bs:List Str} {vs:List V},bc K G vs (bs.map D.str)->vs=bs.map V.str
 | [],[],_=>rfl
 | b::bs,v::vs,h=>by
  simp only[av,bc,Rep] at h;rw[h.1,wm h.2];rfl
 | [],_::_,h=>by simp only[aW,bc] at h
 | _::_,[],h=>by simp only[av,bc] at h
theorem wJ{K:PySem.W.Frag}{G:Hp}(bs:List Str):bc K G (bs.map V.str) (bs.map D.str):=by
 induction bs with
 | nil=>exact bc.nil
 | cons b r ih=>exact bc.cons (pN _ _ _) ih
theorem Bp{ss:List Str}:∀{us:List Value},Vals (ss.map V.str) us->StrsAre us ss:=by
 induction ss with
 | nil=>
  intro us h;cases h;exact .nil
 | cons n r ih=>
  intro us h;cases h with
  | cons a b=>
   obtain⟨t,rfl⟩:=a;exact .cons _ _ (ih b)
theorem uA:∀{vs:List Value} {ss:List Str},StrsAre vs ss->Vals (ss.map V.str) vs
 | _,_,.nil=>.nil
 | _,_,.cons _ _ h=>.cons ⟨_,rfl⟩ (uA h)
theorem jH:cb X (.builtin "sorted") (fun xs H Q=>∃(p:Addr) (ss:List Str),xs=[.ref p]/\cN X.K H p (ss.map V.str)/\ss.length<64/\∀gq:List Str,gq.Perm ss->sortedS gq=true->∀l,H l=none->Q (.ref l) (upd H l (.lst (gq.map V.str)))):=by
 intro pins s σ H xs us Q I r h;obtain⟨p,ss,rfl,hq,u7,q⟩:=h;obtain⟨u,rfl,ru⟩:=ie r;cases ru;obtain⟨its,rv,pl,hz⟩:=I.list hq;have hl:its.length=ss.length:=by rw[<-rv.length,af]
 refine sorted_strs pl.isList (Bp rv) (by omega) fun out gq a1 a2 a3=>?_
 obtain⟨en,he⟩:=sortedAll_at s.heap its out;have hf:H (s.heap.objs.size+1)=none:=I.bX.fresh (Nat.le_succ _);refine⟨.ref (s.heap.objs.size+1),_,I.laid (a:=s.heap.objs.size+1) (o:=.lst (gq.map V.str)) (t':=s.toks) (fun b o e=>sortedAll_old e) (Nat.le_succ _) ?_,rfl,q gq a2 a3 _ hf⟩;refine⟨by rw[af,a2.length_eq];have:=ur;omega,out.toList,en,uA a1,?_⟩;rw[Array.toArray_toList];exact he
theorem Ir:cb X (.builtin "sorted") (fun xs H Q=>∃(p:Addr) (ns:List Int),xs=[.ref p]/\cN X.K H p (ns.map V.int)/\ns.length<64/\∀oS:List Int,oS.Perm ns->oS.Pairwise (·<=·)->∀l,H l=none->Q (.ref l) (upd H l (.lst (oS.map V.int)))):=by
 intro pins s σ H xs us Q I r h;obtain⟨p,ss,rfl,hq,u7,q⟩:=h;obtain⟨u,rfl,ru⟩:=ie r;cases ru;obtain⟨its,rv,pl,hz⟩:=I.list hq;have hl:its.length=ss.length:=by rw[<-rv.length,af]
 refine sorted_ints pl.isList (rL rv) (by omega) fun out gq a1 a2 a3=>?_
 obtain⟨en,he⟩:=sortedAll_at s.heap its out;have hf:H (s.heap.objs.size+1)=none:=I.bX.fresh (Nat.le_succ _);refine⟨.ref (s.heap.objs.size+1),_,I.laid (a:=s.heap.objs.size+1) (o:=.lst (gq.map V.int)) (t':=s.toks) (fun b o e=>sortedAll_old e) (Nat.le_succ _) ?_,rfl,q gq a2 a3 _ hf⟩;refine⟨by rw[af,a2.length_eq];have:=ur;omega,out.toList,en,wM a1,?_⟩;rw[Array.toArray_toList];exact he
def mL:cI:=fun ds Q=>match ds with
 | [.lst es]=>match iQ es with
  | some ss=>ss.length<64/\∀gq:List Str,gq.Perm ss->sortedS gq=true->Q (.ow (gq.map D.str))
  | none=>match hE es with
   | some ns=>ns.length<64/\∀oS:List Int,oS.Perm ns->oS.Pairwise (·<=·)->Q (.ow (oS.map D.int))
   | none=>False
 | _=>False
theorem GP{K:PySem.W.Frag}{G:Hp}(bs:List Int):bc K G (bs.map V.int) (bs.map D.int):=by
 induction bs with
 | nil=>exact bc.nil
 | cons b r ih=>exact bc.cons (gm _ _ _) ih
theorem wj(_:X.calm=true):kY X (.builtin "sorted") mL:=by
 refine⟨_,jH.or Ir,fun G H vs ds Q P s rs h k=>?_⟩;unfold mL at h;split at h
 ·split at h
  ·rename_i es bs hb;obtain⟨v,rfl,rv⟩:=gN rs;simp only[Rep] at rv;obtain⟨a,xs,rfl,h1,h2⟩:=rv;rw[wZ hb] at h2;rw[wm h2] at h1;exact .inl ⟨a,bs,rfl,(s.c9 h1).sq,h.1,fun gq p1 p2=>nQ s (wJ gq) (h.2 gq p1 p2) k⟩
  ·split at h
   ·rename_i es _ bs hb;obtain⟨v,rfl,rv⟩:=gN rs;simp only[Rep] at rv;obtain⟨a,xs,rfl,h1,h2⟩:=rv;rw[pZ hb] at h2;rw[pT h2] at h1;exact .inr ⟨a,bs,rfl,(s.c9 h1).sq,h.1,fun gq p1 p2=>nQ s (GP gq) (h.2 gq p1 p2) k⟩
   ·exact h.elim
 ·exact h.elim
def CL(X:Cx)(id:String)(o:D->List D->(R->Prop)->Prop):Prop:=∃r,y3 X id r/\∀(G H:Hp) (x:V) (d:D) (vs:List V) (ds:List D) (Q:R->Prop) (P:VK),bw G H->Rep X.K G x d->bc X.K G vs ds->o d ds Q->
 (∀v H' r' G',Ext G H G' H'->cP X.K G' H' H v r'->Q r'->P v H')->r x vs H P
def dM(T:String)(o:D->List D->(R->Prop)->Prop)(te:TD)(ts:fU):TD:=fun ρ Q=>te ρ fun r=>jr r.val=T/\ts ρ fun ds=>o r.val ds Q
theorem FP{K:PySem.W.Frag}{G H:Hp}{x:V}{d:D}{T:String}(s:bw G H)(r:Rep K G x d)(h:jr d=T)(hT:T="list"\/T="str"):uK K T x H:=by
 cases d with
 | str z=>simp only[Rep] at r;subst r;exact h.symm
 | lst ds=>
  simp only[Rep] at r;obtain⟨a,xs,rfl,h1,_⟩:=r;exact .inl ⟨h.symm,xs,(s.c9 h1).sq⟩
 | non=>subst h;rcases hT with h | h<;>simp[jr] at h
 | bl=>subst h;rcases hT with h | h<;>simp[jr] at h
 | int=>subst h;rcases hT with h | h<;>simp[jr] at h
 | tup=>subst h;rcases hT with h | h<;>simp[jr] at h
 | obj=>subst h;rcases hT with h | h<;>simp[jr] at h
 | dic=>subst h;rcases hT with h | h<;>simp[jr] at h
 | dit=>subst h;rcases hT with h | h<;>simp[jr] at h
 | exc=>subst h;rcases hT with h | h<;>simp[jr] at h
theorem FO{T id:String}{name:Str}{p':Pos}{e1:Expr}{o:D->List D->(R->Prop)->Prop}(hm:CL X id o)(hT:T="list"\/T="str")(pa:PlainAttrs T)(slot:Slot T name id)(sJ:typeOf (.builtin id)=pure (.type "method_descriptor"))
  (he:PD X e te) (ha:iN X (e1::es) ts) (i8:attributeBase e name X.env (eval e X.env)=eval e X.env:=by rfl)
  (o7:((backTo pos (starEach (e1::es) X.env)).all (fun x=>!x.1)&&(backToKw pos (keywordEach [] X.env)).all (fun x=>x.1.isSome)
   && decide ((e1::es).length+([]:List Keyword).length+(if ([]:List Keyword).isEmpty then 0 else 1)<30))=true:=by rfl)
  (i6:(p'.endLine==pos.line)=true:=by rfl) (hs:starEach (e1::es) X.env=(false,eval e1 X.env)::starEach es X.env:=by rfl) (jF:(backTo pos (starEach es X.env)).any (·.1)=false:=by rfl) :
  PD X (.Call (.Attribute e name p') (e1::es) [] pos) (dM T o te ts):=by
 obtain⟨r,hr,lE⟩:=hm;obtain⟨t1,p1,q1⟩:=he;obtain⟨t2,p2,q2⟩:=ha;refine⟨_,vG pa slot sJ hr p1 p2 i8 o7 i6 hs jF,fun ρ σ G0 H0 G H Q P E h k=>q1 ρ σ G0 H0 G H _ _ E h fun v H' r1 G' x rr hq=>?_⟩;obtain⟨G2,x2,rv,_⟩:=rr.freeze x;refine⟨FP x2.s rv hq.1 hT,q2 ρ σ G0 H0 G2 H' _ _ (E.ext x2) hq.2 fun vs H3 ds G3 x3 rs i4=>?_⟩;exact lE G3 H3 v r1.val vs ds Q P x3.s (rv.mono x3.g) rs i4 fun w' H4 r4 G4 x4 Kw q4=>k w' H4 r4 G4 ((x2.trans x3).trans x4) (Kw.dz (x2.trans x3).h) q4
noncomputable def kI(d:D)(ds:List D):Nat:=ds.countP fun e=>bz e d
def t6:D->List D->(R->Prop)->Prop:=fun d ds Q=>match d,ds with
 | .lst es,[x]=>bQ 8 x/\(∀e∈es,bQ 8 e)/\Q (.fz (.int (kI x es)))
 | _,_=>False
theorem Ab{pins:List (Addr×Obj)}{σ:St}{H:Hp}{s:Shared}(I:Inv X pins σ H s){d:D}:∀{es:List D} {vs:List V} {us:List Value},(∀e∈es,bQ 8 e)->Vals vs us->bc X.K H vs es->us.countP (iL X H d)=kI d es
 | [],_,_,_,rv,re=>by
  cases rv
  ·rfl
  ·simp only[bc] at re
 | e::es,_,_,h,rv,re=>by
  cases rv with
  | nil=>simp only[bc] at re
  | cons r t=>
   simp only[bc] at re;unfold kI;rw[List.countP_cons,List.countP_cons,vR I (h e (by simp)) r re.1,Ab I (fun x hx=>h x (by simp[hx])) t re.2];rfl
theorem FN(hu:X.A.units+64<cLine):CL X "list.count" t6:=by
 refine⟨fun x vs H Q=>∃p d es ws y,x=.ref p/\vs=[y]/\cN X.K H p ws/\bQ 8 d/\(∀e∈es,bQ 8 e)/\Rep X.K H y d/\bc X.K H ws es/\Q (.int (kI d es)) H,fun pins s σ H x xs v us Q I rx rs h=>?_,fun G H x d vs ds Q P s rx rs h k=>?_⟩
 ·obtain⟨p,d,es,ws,y,rfl,rfl,hq,hd,he,rd,re,q⟩:=h;cases rx;obtain⟨u,rfl,ru⟩:=ie rs;obtain⟨its,rv,pl,hz⟩:=I.list hq;obtain⟨⟨cls,dd,data,sl⟩,n,ho,hc,Mw,Cn⟩:=id pl;simp only at hc Cn;subst hc Cn;refine call_meets PySem.F.slot_list_count ⟨_,ho,rfl⟩ PySem.F.entry_list_count (PySem.F.args_list_count_2 _ _) (SeqAt.list_countAt p its.toArray n dd sl u (iL X H d)) ⟨ho,rf (A:=X.A.in1) I hd (by show X.A.units+1+8<cLine;omega) rd ru he rv re,?_⟩;rw[show its.toArray.toList=its from rfl,Ab I he rv re];exact⟨.int _,H,I.tok _,⟨_,rfl⟩,q⟩
 ·unfold t6 at h;split at h
  ·obtain⟨y,rfl,ry⟩:=gN rs;simp only[Rep] at rx;obtain⟨a,xs,rfl,h1,h2⟩:=rx;exact⟨a,_,_,xs,y,rfl,rfl,(s.c9 h1).sq,h.1,h.2.1,ry.mono s,h2.mono s,k _ _ _ G (.refl s) (ee (gm _ _ _)) h.2.2⟩
  ·exact h.elim
end
end L2
namespace L2
open PySem PySem.Spec PyProof.Rows
theorem Bo{prog:Program}{w:World}{A:Around}{E:Value->Shared->Prop}{it l:Addr}{items:Array Value}(cH:l≠it) :
  ∀(n i:Nat) (s:Shared) (Q:List Value->Shared->Prop),s.heap.IsListIter it l i->s.heap.IsList l items->i+n<=items.size->
   (∀h':Heap,h'.IsListIter it l (i+n)->Heap.SameBut it s.heap h'->Q ((items.toList.drop i).take n) { s with heap:=h' })->wpAny (model prog w) A (draw (.ref it) n) Q E s
 | 0,i,s,Q,st,hl,hn,q=>by
  rw[draw.eq_1];exact ab (by have:=q s.heap st ⟨rfl,fun _ _=>rfl⟩;simpa using this)
 | n+1,i,s,Q,st,hl,hn,q=>by
  rw[draw.eq_2];have hi:i<items.size:=by omega
  refine aa (wpAny_pyNext_list_item st hl (x:=items[i]) (by simp[hi]) fun h1 uO sb=>?_);dsimp only;have j3:h1.IsList l items:=by
   obtain⟨o,e,c⟩:=hl;exact⟨o,(sb.2 l cH).trans e,c⟩
  refine aa (aQ (Bo cH n (i+1) { s with heap:=h1 } _ uO j3 (by omega) fun h2 nW mZ=>ab ?_));have:=q h2 (by rw[show i+(n+1)=i+1+n by omega];exact nW) ⟨mZ.1.trans sb.1,fun b hb=>(mZ.2 b hb).trans (sb.2 b hb)⟩;have e:(items.toList.drop i).take (n+1)=items[i]::(items.toList.drop (i+1)).take n:=by
   rw[List.drop_eq_getElem_cons (by simpa using hi)];simp
  rw[e] at this;exact this
theorem JK{prog:Program}{w:World}{A:Around}{E:Value->Shared->Prop}{s:Shared}{l:Addr}{items:Array Value}{Q:List Value->Shared->Prop}(hd:A.handled=none)(hl:s.heap.IsList l items)
  (q:∀h':Heap,Heap.ExtBut s.heap.objs.size s.heap h'->Q items.toList { s with heap:=h' }):wpAny (model prog w) A (unpackItems (.ref l) items.size none) Q E s:=by
 unfold unpackItems;have dg:l<s.heap.objs.size:=by obtain⟨o,e,_⟩:=hl;exact aj e
 have ty:s.TypeIs (.ref l) "list":=by obtain⟨o,e,c,_⟩:=hl;exact⟨o,e,c⟩
 refine aa ?_;unfold notIterableAtAll;refine aa (wpAny_specialOf ty F.slot_list_iter.lookup ?_);rw[if_pos (show((some (Value.builtin "list.__iter__")).isSome=true) from rfl)];refine ab ?_;rw[if_neg aG];refine aa (aQ (wpAny_pyIter_list hl ?_));dsimp only;have j3:(s.heap.push { cls:=Value.type "list_iterator",data:=Data.fields #[Value.ref l,Value.int 0 0] }).IsList l items:=by
  obtain⟨o,e,c⟩:=hl;exact⟨o,ae _ e,c⟩
 refine aa (aQ (Bo (az dg) items.size 0 _ _ ⟨_,ao _ rfl,rfl,rfl⟩ j3 (by omega) fun h2 nW mZ=>?_));have uY:h2.IsList l items:=by
  obtain⟨o,e,c⟩:=j3;exact⟨o,(mZ.2 l (az dg)).trans e,c⟩
 have el:List.take items.size (List.drop 0 items.toList)=items.toList:=by rw[List.drop_zero,show items.size=items.toList.length by simp,List.take_length]
 rw[el,if_neg (by simp)];refine aa (aQ (wpAny_pyNext_list_end hd nW uY (by simp) fun h3 eb=>?_));rw[if_neg (by simp)];refine ab (q h3 fun b o hb e=>eb b o hb ?_);rw[mZ.2 b hb];exact ae _ e
section
variable {X:Cx} {pos:Pos}
def Dw(K:PySem.W.Frag)(n:Nat)(t:nz):TG:=fun v σ H Q=>∃a xs,v=.ref a/\cN K H a xs/\xs.length=n/\t xs σ H Q
theorem FL{es:List Expr}{k:Nat}{t:nz}{n:Nat}(hc:X.calm=true)(h:qw X es t)
  (hn:(assignEach es X.env).length=n:=by rfl) (gJ:(assignEach es X.env).findIdx? (·.1)=none:=by rfl):PG X (.Tuple es k pos) (Dw X.K n t):=by
 intro pins s σ H v u Q I r hw;obtain⟨a,xs,e1,hq,hl,hw⟩:=hw;subst e1;cases r;obtain⟨its,rv,pl,hz⟩:=I.list hq;rw[assign_Tuple];refine aa (wpAny_standAt ?_);unfold unpack;have hlen:(assignEach es X.env).length=its.toArray.size:=by rw[hn,<-hl,rv.length];simp
 rw[hlen,gJ];refine aa (aQ (JK (I.ok.hd hc) pl.isList fun h' hx=>?_));have I1:Inv X pins σ H { s with heap:=h' }:=I.kept (t':=s.toks) fun b o e=>hx b o (az (aj e)) e
 exact h pins _ σ H xs _ Q I1 (by simpa using rv) hw
def tN(n:Nat)(t:ka):fT:=fun d ρ Q=>match d with
 | .lst ds=>ds.length=n/\t ds ρ Q
 | _=>False
theorem FK{es:List Expr}{k:Nat}{t:ka}{n:Nat}(hc:X.calm=true)(h:qE X es t)(hn:(assignEach es X.env).length=n:=by rfl)(gJ:(assignEach es X.env).findIdx? (·.1)=none:=by rfl):nA X (.Tuple es k pos) (tN n t):=by
 obtain⟨t1,p1,q1⟩:=h;refine⟨_,FL hc p1 hn gJ,fun ρ σ G0 H0 G H d v Q P E r h k=>?_⟩;unfold tN at h;split at h
 ·simp only[Rep] at r;obtain⟨a,xs,rfl,hq,rs⟩:=r;exact⟨a,xs,rfl,(E.e.s.c9 hq).sq,by rw[rs.length];exact h.1,q1 ρ σ G0 H0 G H _ xs Q P E rs h.2 k⟩
 ·exact h.elim
end
theorem FQ{acc:List Int}{k:Int}:∀a,a∈step_dedup acc k↔a∈acc\/a=k:=by
 intro a;unfold step_dedup;split
 ·rename_i h;constructor
  ·exact .inl
  ·rintro(h' | rfl)
   ·exact h'
   ·simpa using h
 ·simp
theorem Iq{acc:List Int}{k:Int}(h:acc.Nodup):(step_dedup acc k).Nodup:=by
 unfold step_dedup;split
 ·exact h
 ·rename_i hn;rw[List.nodup_append];refine⟨h,by simp,fun a ha b hb=>?_⟩;have:b=k:=by simpa using hb
  subst this;rintro rfl;exact hn (by simpa using ha)
theorem Ip(l acc:List Int)(h:acc.Nodup):(l.foldl step_dedup acc).Nodup/\∀a,a∈l.foldl step_dedup acc↔a∈acc\/a∈l:=by
 induction l generalizing acc with
 | nil=>exact⟨h,fun a=>by simp⟩
 | cons k r ih=>
  obtain⟨h1,h2⟩:=ih (step_dedup acc k) (Iq h);refine⟨h1,fun a=>?_⟩;rw[List.foldl_cons,h2 a,FQ a,ai,or_assoc]
theorem Jf(ns:List Int):firstMet (fun i=>ns.getD i 0) ns.length=ns.foldl step_dedup []:=by
 unfold firstMet;congr 1
 apply List.ext_getElem
 ·simp
 ·intro i h1 h2;simp[List.getD,h2]
section
variable {X:Cx} {pos:Pos} {e:Expr} {te:TD} {es:List Expr} {ts:fU}
noncomputable def vL(ns:List Int):List Int:=ns.foldl step_dedup []
theorem GO(hc:X.calm=true):cb X (.type "set") (fun xs H Q=>∃(p:Addr) (ns:List Int),xs=[.ref p]/\cN X.K H p (ns.map V.int)/\ns.length<4000/\∀q,H q=none->∀S:Int->Bool,Q (.ref q) (upd H q (.set S (vL ns).length))):=by
 intro pins s σ H xs us Q I r h;obtain⟨p,ns,rfl,hq,d0,q⟩:=h;obtain⟨u,rfl,ru⟩:=ie r;cases ru;obtain⟨its,rv,pl,hz⟩:=I.list hq;have hl:its.toArray.size=ns.length:=by rw[ah,<-rv.length,af]
 refine call_set_list (I.ok.hd hc) pl.isList (by simpa using rL rv) (by rw[hl];have:scanBound=4096:=(by decide);omega) fun h' tk hs hk=>?_
 have hf:H s.heap.objs.size=none:=I.bX.fresh (aq _);rw[hl] at hs;refine⟨.ref s.heap.objs.size,_,I.laid (a:=s.heap.objs.size) (t':=tk) (fun b o e=>hk b o (aj e) e) (aq _) (o:=.set _ _) hs,rfl,?_⟩;rw[Jf];exact q _ hf _
theorem GN:cb X (.builtin "len") (fun xs H Q=>∃(p:Addr) (S:Int->Bool) (n:Nat),xs=[.ref p]/\H p=some (.set S n)/\Q (.int n) H):=by
 intro pins s σ H xs us Q I r h;obtain⟨p,S,n,rfl,hp,q⟩:=h;obtain⟨u,rfl,ru⟩:=ie r;cases ru;obtain⟨o,es,ep,t,h1,h2,h3,h4,h5,h6,h7,rfl⟩:=(show s.heap.SetOf (intKind X.prog X.w) p S n from I.bX p _ hp)
 refine call_len_set h1 h2 h3 h7 ?_ ⟨.int _,H,I.tok _,⟨_,rfl⟩,q⟩;have:scanBound=4096:=by decide
 have h8:es.size<4096:=by omega
 exact Int.ofNat_lt.mpr (Nat.lt_trans h8 (by decide))
theorem uz:bootBuiltins "set"=some (.type "set"):=by rfl
def ug:cI:=fun ds Q=>match ds with
 | [.lst es]=>match hE es with
  | some ns=>ns.length<4000/\∀l:List Int,l.Nodup->(∀k,k∈l↔k∈ns)->Q (.fz (.int l.length))
  | none=>False
 | _=>False
theorem GL{p1 p2 c7:Pos}(hc:X.calm=true)(kB:X.mg "len"=none)(gV:X.mg "set"=none)(ha:iN X [e] ts)(nq:Gl X "len":=by rfl)(kR:Gl X "set":=by rfl)
  (he:starEach [e] X.env=(false,eval e X.env)::starEach [] X.env:=by rfl) (kS:starEach [.Call (.Name "set" p2) [e] [] c7] X.env=(false,eval (.Call (.Name "set" p2) [e] [] c7) X.env)::starEach [] X.env:=by rfl):PD X (.Call (.Name "len" p1) [.Call (.Name "set" p2) [e] [] c7] [] pos) (cM ug ts):=by
 obtain⟨t,pp,q⟩:=ha;refine⟨_,wy GN nq kB boot_len (mQ (wN (GO hc) kR gV uz pp (by decide) (by decide) he rfl) nO kS) (by decide) (by decide) kS rfl,fun ρ σ G0 H0 G H Q P E h k=>?_⟩;refine q ρ σ G0 H0 G H _ _ E h fun vs H' ds G' x rs hq=>?_
 unfold ug at hq;split at hq
 ·split at hq
  ·rename_i es ns hn;obtain⟨v,rfl,rv⟩:=gN rs;simp only[Rep] at rv;obtain⟨a,xs,rfl,h1,h2⟩:=rv;rw[pZ hn] at h2;rw[pT h2] at h1;refine⟨a,ns,rfl,(x.s.c9 h1).sq,hq.1,fun q' m9 S=>⟨q',S,_,rfl,fq,?_⟩⟩;obtain⟨f1,f2⟩:=Ip ns [] List.nodup_nil;exact k _ _ _ G' (x.trans (.own x.s m9)) (ee (gm _ _ _)) (hq.2 (vL ns) f1 fun k=>by rw[vL,f2];simp)
  ·exact hq.elim
 ·exact hq.elim
theorem bP.look{K:PySem.W.Frag}{H:Hp}{f:Str}:∀{gs:List (Str×V)} {fs:List (Str×D)} {d:D},bP K H gs fs->fs.lookup f=some d->∃v,gs.lookup f=some v/\Rep K H v d
 | [],[],d,_,h=>by simp at h
 | (x,v)::gs,(y,d')::fs,d,r,h=>by
  simp only[bP] at r;obtain⟨⟨rfl,r1⟩,r2⟩:=r;rw[List.lookup_cons] at h ⊢;cases hb:f==x with
  | true=>rw[hb] at h;cases h;exact⟨v,rfl,r1⟩
  | false=>rw[hb] at h;exact bP.look r2 h
 | [],_::_,_,r,_=>by simp only[bP] at r
 | _::_,[],_,r,_=>by simp only[bP] at r
theorem AF{f:Str}:∀{fs:List (Str×D)} {d:D},fs.lookup f=some d->∃p∈fs,p.1=f
 | [],d,h=>by simp at h
 | (y,d')::fs,d,h=>by
  rw[List.lookup_cons] at h;cases hb:f==y with
  | true=>exact⟨(y,d'),by simp,(beq_iff_eq.mp hb).symm⟩
  | false=>
   rw[hb] at h;obtain⟨p,h1,h2⟩:=AF h;exact⟨p,by simp[h1],h2⟩
def fP(f:Str)(te:TD):TD:=fun ρ Q=>te ρ fun r=>match r.val with
 | .obj _ fs=>∃d,fs.lookup f=some d/\Q (.fz d)
 | _=>False
theorem g9{f:Str}(he:PD X e te)(hb:attributeBase e f X.env (eval e X.env)=eval e X.env:=by rfl):PD X (.Attribute e f pos) (fP f te):=by
 obtain⟨t,p,q⟩:=he;refine⟨_,EA p hb,fun ρ σ G0 H0 G H Q P E h k=>q ρ σ G0 H0 G H _ _ E h fun v H' r G' x rr hq=>?_⟩;obtain⟨G2,x2,rv,_⟩:=rr.freeze x;split at hq
 ·rename_i cn fs e1;rw[e1] at rv;simp only[Rep] at rv;obtain⟨a,C,dx,gs,rfl,h1,h2,h3,h4⟩:=rv;obtain⟨d,hd,hq⟩:=hq;obtain⟨v,hv,rv⟩:=h4.look hd;obtain⟨pr,hp,rfl⟩:=AF hd;exact⟨a,C,dx,gs,v,rfl,x2.s _ _ h1,h2.cls,h3 pr hp,hv,k _ _ _ G2 x2 (ee rv) hq⟩
 ·exact hq.elim
noncomputable def pG(f:Str)(v:D):List (Str×D)->List (Str×D)
 | []=>[(f,v)]
 | (g,x)::r=>if g=f then(g,v)::r else(g,x)::pG f v r
theorem bP.put{K:PySem.W.Frag}{H:Hp}{f:Str}{v:V}{d:D}(rv:Rep K H v d):∀{gs:List (Str×V)} {fs:List (Str×D)},bP K H gs fs->bP K H (g8 f v gs) (pG f d fs)
 | [],[],_=>by simp only[g8,pG,bP,and_true,true_and];exact rv
 | (x,u)::gs,(y,d')::fs,r=>by
  simp only[bP] at r;obtain⟨⟨rfl,r1⟩,r2⟩:=r;simp only[g8,pG];split
  ·simp only[bP,true_and];exact⟨rv,r2⟩
  ·simp only[bP,true_and];exact⟨r1,bP.put rv r2⟩
 | [],_::_,r=>by simp only[bP] at r
 | _::_,[],r=>by simp only[bP] at r
theorem bP.length{K:PySem.W.Frag}{H:Hp}:∀{gs:List (Str×V)} {fs:List (Str×D)},bP K H gs fs->gs.length=fs.length
 | [],[],_=>rfl
 | (x,u)::gs,(y,d')::fs,r=>by
  simp only[bP] at r;simp[bP.length r.2]
 | [],_::_,r=>by simp only[bP] at r
 | _::_,[],r=>by simp only[bP] at r
structure Making (K:PySem.W.Frag) (C:Addr) (x dx:Addr) (G0 H0:Hp) (ρ:Ev) (σ:St) (G H:Hp) (fs:List (Str×D)) (gs:List (Str×V)):Prop where
 e:cz K G0 H0 ρ σ G H
 sl:σ[0]?=some (some (.ref x))
 hx:H x=some (.ins C dx gs)
 lJ:H dx=some (.own x)
 gx:G x=none
 tw:G dx=none
 r:bP K G gs fs
theorem Making.ext{K:PySem.W.Frag}{C x dx:Addr}{G0 H0:Hp}{ρ:Ev}{σ:St}{G H G' H':Hp}{fs:List (Str×D)}{gs:List (Str×V)}(M:Making K C x dx G0 H0 ρ σ G H fs gs)(y:Ext G H G' H'):Making K C x dx G0 H0 ρ σ G' H' fs gs:=
 ⟨M.e.ext y,M.sl,y.h _ _ M.hx,y.h _ _ M.lJ,y.n _ M.gx (by rw[M.hx];exact nofun),y.n _ M.tw (by rw[M.lJ];exact nofun),bP.mono y.g _ _ M.r⟩
noncomputable abbrev px:=Ev->List (Str×D)->(List (Str×D)->Prop)->Prop
def vh(X:Cx)(C:Addr)(mi:List Stmt)(t:px):Prop:=∃tt,j9 X mi tt/\∀(x dx:Addr) (ρ:Ev) (σ:St) (G0 H0 G H:Hp) (fs:List (Str×D)) (gs:List (Str×V)) (Q:List (Str×D)->Prop) (E:Ends),H0 x=none->H0 dx=none->dx≠x->(∀i o,gt ρ i≠.ov o)->
 Making X.K C x dx G0 H0 ρ σ G H fs gs->t ρ fs Q->(∀bR G' H' u9 LU,Making X.K C x dx G0 H0 ρ bR G' H' u9 LU->Q u9->E.nx bR H')->tt E σ H
def vt:px:=fun _ fs Q=>Q fs
def mI(f:Str)(te:TD)(u:px):px:=fun ρ fs Q=>te ρ fun r=>fs.length<1000/\u ρ (pG f r.val fs) Q
theorem FJ{C:Addr}:vh X C [] vt:=⟨_,Ai,fun x dx ρ σ G0 H0 G H fs gs Q E _ _ _ _ M h k=>k σ G H fs gs M h⟩
theorem oE{C:Addr}{f x:Str}{p1 p2:Pos}{mi:List Stmt}{u:px}(c:ot X.K C)(n:bT X.K C f)(he:PD X e te)(hr:vh X C mi u)(hN:X.N[0]?=some x:=by rfl)(hv:lT X.env.scope x:=by first | exact Or.inl rfl | exact Or.inr (Or.inl rfl) | exact Or.inr (Or.inr rfl))
  (hs:swapsWith e (some (.Attribute (.Name x p1) f p2)) pos.line X.env=pure false:=by rfl) (hd:(x==("__debug__":Str))=false:=by decide) (fL:(x==("__classdict__":Str))=false:=by decide) :
  vh X C (.Assign [.Attribute (.Name x p1) f p2] e pos::mi) (mI f te u):=by
 obtain⟨t1,h1,q1⟩:=he;obtain⟨t2,h2,q2⟩:=hr;refine⟨_,AS (Ez (nP hN hv hd fL) h1 hs) h2,fun x dx ρ σ G0 H0 G H fs gs Q E z1 z2 z3 z4 M h k=>?_⟩;refine q1 ρ σ G0 H0 G H _ _ M.e h fun v H' r G' y rr hq=>?_
 obtain⟨G2,y2,rv,_⟩:=rr.freeze y;have M2:=M.ext y2;refine⟨_,M.sl,x,C,dx,gs,rfl,M2.hx,c,n,by rw[M.r.length];exact hq.1,?_⟩;refine q2 x dx ρ σ G0 H0 G2 _ (pG f r.val fs) (g8 f v gs) Q E z1 z2 z3 z4 ?_ hq.2 k;refine⟨⟨⟨M2.e.e.g,fun b o e=>by rw[cA (gO e z1)];exact M2.e.e.h b o e,fun b o e=>by rw[cA (gO e M2.gx)];exact M2.e.e.s b o e,M2.e.e.n⟩,M2.e.len,M2.e.fz,fun i ds h=>?_,M2.e.dj,?_⟩,M2.sl,fq,by rw[cA z3];exact M2.lJ,M2.gx,M2.tw,M2.r.put rv⟩
 ·obtain⟨p,xs,b1,b2,b3,b4,b5⟩:=M2.e.ow i ds h;exact⟨p,xs,b1,by rw[cA (D0 b2 M2.hx (by simp))];exact b2,b3,b4,b5⟩
 ·obtain⟨own,o1,o2⟩:=M2.e.on;exact⟨own,o1,fun i o h=>(z4 i o h).elim⟩
end
def CM(K:PySem.W.Frag)(C:Addr)(n:Nat)(t:cI):Sp:=fun vs H Q _=>∃x dx H1 G ds rP Qr,vs=.ref x::rP/\H=upd (upd H1 dx (.own x)) x (.ins C dx [])/\H1 x=none/\H1 dx=none/\dx≠x/\bw G H1/\bc K G rP ds/\ds.length=n/\t ds Qr/\
 ∀H' r G',Ext G H1 G' H'->cP K G' H' H1 (.ref x) r->Qr r->Q .non H'
section
variable {P:Program} {w:World} {K:PySem.W.Frag} {mg:Str->Option Value} {base:Heap}
noncomputable def nM(N:List Str)(ds:List D):Ev:=.un::(ds.map Sl.fz++List.replicate (N.length-1-ds.length) .un)
theorem GK{G H:Hp}{N:List Str}{x:V}{vs:List V}{ds:List D}(s:bw G H)(r:bc K G vs ds):cz K G H (nM N ds) (ic N (x::vs)) G H:=by
 have E:=AI (N:=N.drop 1) s r;have hl:=r.length;have e1:nM N ds=.un::eW (N.drop 1) ds:=by simp[nM,eW]
 have e2:ic N (x::vs)=some x::ic (N.drop 1) vs:=by simp[ic,Nat.sub_sub,Nat.add_comm]
 rw[e1,e2];refine⟨E.e,congrArg (·+1) E.len,fun i d h=>?_,fun i d h=>?_,fun i j d d' yC h h'=>?_,?_⟩
 ·cases i with
  | zero=>cases h
  | succ i=>exact E.fz i d h
 ·cases i with
  | zero=>cases h
  | succ i=>exact E.ow i d h
 ·cases i with
  | zero=>cases h
  | succ i=>
   cases j with
   | zero=>cases h'
   | succ j=>exact E.dj i j d d' (fun z=>yC (by rw[z])) h h'
 ·obtain⟨own,o1,o2⟩:=E.on;refine⟨fun q=>(own q).map (·+1),fun i ds p h hp=>?_,fun i o h=>?_⟩
  ·cases i with
   | zero=>cases h
   | succ i=>
    dsimp only;rw[o1 i ds p h hp];rfl
  ·cases i with
   | zero=>cases h
   | succ i=>
    obtain⟨p,fp,b1,b2,b3,b4⟩:=o2 i o h;refine⟨p,fp,b1,b2,b3,fun q hq=>⟨(b4 q hq).1,(b4 q hq).2.1,?_⟩⟩;dsimp only;rw[(b4 q hq).2.2];rfl
theorem IV(N:List Str)(ds:List D):∀i o,gt (nM N ds) i≠.ov o:=by
 have key:∀(l:List Sl),(∀s∈l,∀o,s≠.ov o)->∀i o,gt l i≠.ov o:=by
  intro l;induction l with
  | nil=>intro _ i o h;cases h
  | cons a r ih=>
   intro h i o;cases i with
   | zero=>exact h a (by simp) o
   | succ i=>exact ih (fun s hs=>h s (by simp[hs])) i o
 refine key _ fun s hs o e=>?_
 subst e;unfold nM at hs;simp at hs
theorem GJ{x qual cn:Str}{st:Stmt}{f C:Addr}{fd:FuncData}{N ps:List Str}{k:Nat}{t:cI}{T:px}(F:vn K x qual st f fd)(S:br N ("self"::ps) (bf st))(hC:ClsAt K cn C)
  (body:∀(bM:Value) (A:Around) (outer:List Env) (s:Shared) (H:Hp) (E:XK),cm k (A.deeper (envOfC qual (bf st) s.heap.objs.size f bM))->vh (kJ iO P w K mg base N qual (bf st) f bM A outer s H E).mn C (bN st) T)
  (spec:∀(ds:List D) (Qr:R->Prop),ds.length=ps.length->t ds Qr->T (nM N ds) [] fun fs=>(∀p∈fs,bT K C p.1)/\Qr (.fz (.obj cn fs))):eT P w K mg base iO (k+1) f fd ("self"::ps) (CM K C ps.length t):=by
 refine F.ok S (fun vs H Q E h=>?_) (fun bM A outer s H vs Q E hr h=>?_)
 ·obtain⟨x,dx,H1,G,ds,rP,Qr,rfl,_,_,_,_,_,r,hl,_⟩:=h;simp[r.length,hl]
 ·obtain⟨x,dx,H1,G,ds,rP,Qr,rfl,rfl,hx,lJ,cH,s0,r,hl,ht,k0⟩:=h;obtain⟨tt,p,q⟩:=body bM A outer s _ E hr;have E0:=GK (N:=N) (x:=.ref x) s0 r;have gx:=s0.free hx;have tw:=s0.free lJ;have sH:bw H1 (upd (upd H1 dx (.own x)) x (.ins C dx [])):=fun b o e=>by rw[cA (gO e hx),cA (gO e lJ)];exact e
  have M0:Making K C x dx G H1 (nM N ds) (ic N (.ref x::rP)) G (upd (upd H1 dx (.own x)) x (.ins C dx [])) [] []:=
   ⟨⟨⟨bw.refl _,sH,s0.trans sH,fun _ h _=>h⟩,E0.len,E0.fz,fun i ds h=>let⟨p,xs,b1,b2,b3,b4,b5⟩:=E0.ow i ds h;⟨p,xs,b1,sH _ _ b2,b3,b4,b5⟩,E0.dj,let⟨own,o1,o2⟩:=E0.on;⟨own,o1,fun i o h=>let⟨p,fp,b1,b2,b3,b4⟩:=o2 i o h;⟨p,fp,b1,b2,b3.mono (bw.refl _) fun q _ u e=>sH q u e,b4⟩⟩⟩,by simp[ic],fq,by rw[cA cH];exact fq,gx,tw,by simp only[bP]⟩
  refine⟨tt,p,q x dx _ _ G H1 G _ [] [] _ _ hx lJ cH (IV _ _) M0 (spec ds Qr hl ht) fun bR G' H' fs gs M hq=>?_⟩;have y:=M.e.e;have ne':dx≠x:=cH;have sG:bw G' (upd (upd G' dx (.own x)) x (.ins C dx gs)):=fun b o e=>by rw[cA (gO e M.gx),cA (gO e M.tw)];exact e
  refine k0 H' (.fz (.obj cn fs)) (upd (upd G' dx (.own x)) x (.ins C dx gs)) ⟨y.g.trans sG,y.h,fun b o e=>?_,fun b h1 h2=>?_⟩ ?_ hq.2
  ·by_cases hb:b=x
   ·subst hb;rw[fq] at e;rw[M.hx];exact e
   ·rw[cA hb] at e;by_cases Cs:b=dx
    ·subst Cs;rw[fq] at e;rw[M.lJ];exact e
    ·rw[cA Cs] at e;exact y.s b o e
  ·rw[cA (fun z=>h2 (by rw[z];exact hx)),cA (fun z=>h2 (by rw[z];exact lJ))];exact y.n b h1 h2
  ·show Rep K _ _ (.obj cn fs);simp only[Rep];exact⟨x,C,dx,gs,rfl,fq,hC,hq.1,bP.mono sG _ _ M.r⟩
structure iw (P:Program) (w:World) (K:PySem.W.Frag) (mg:Str->Option Value) (base:Heap) (k:Nat) (x:Str) (n:Nat) (t:cI):Prop where
 ex:∃(C f:Addr) (fd:FuncData) (ps:List Str),Mk K C f/\eT P w K mg base iO k f fd ps (CM K C n t)/\mg x=some (.ref C)/\Binds K fd ps []
end
section
variable {X:Cx} {k k' n:Nat} {t:cI} {x:Str} {p pos:Pos} {e:Expr} {es:List Expr} {ts:fU}
theorem Gw(C:iw X.prog X.w X.K X.mg X.base k x n t)(hr:cm k' X.A)(ha:iN X (e::es) ts)(hk:k+1<=k':=by decide)(hg:Gl X x:=by rfl)(il:(x==("__debug__":Str))=false:=by decide)
  (he:starEach (e::es) X.env=(false,eval e X.env)::starEach es X.env:=by rfl) (dA:(backTo pos (starEach es X.env)).any (·.1)=false:=by rfl):PD X (.Call (.Name x p) (e::es) [] pos) (dy n t ts):=by
 obtain⟨C,f,fd,ps,M,F,hm,hb⟩:=C.ex;obtain⟨tt,pp,q⟩:=ha;refine⟨_,Fz M F (hr.mono hk) hg hm hb .nil vF pp il he dA,fun ρ σ G0 H0 G H Q P E h k=>q ρ σ G0 H0 G H _ _ E h fun vs H' ds G' y rs hq=>?_⟩;intro a dx ha lJ cH;rw[List.append_nil];exact⟨a,dx,H',G',ds,vs,Q,rfl,rfl,ha,lJ,cH,y.s,rs,hq.1,hq.2,fun H2 r G2 x2 rr q2=>⟨rfl,k _ H2 r G2 (y.trans x2) (rr.dz y.h) q2⟩⟩
end
end L2
namespace L2
open PySem PySem.Spec PyProof.Rows
def eL(K:PySem.W.Frag)(C:Addr):List Str->Prop
 | []=>True
 | x::r=>bT K C x/\eL K C r
theorem eL.all{K:PySem.W.Frag}{C:Addr}:∀{l:List Str},eL K C l->∀x∈l,bT K C x
 | [],_,x,h=>by cases h
 | y::r,n,x,h=>by
  rcases ai.mp h with rfl | h
  ·exact n.1
  ·exact eL.all n.2 x h
structure vq (K:PySem.W.Frag) (mg:Str->Option Value) (cn qual:Str) (st:Stmt) (fields:List Str):Prop where
 ex:∃(C f:Addr) (fd:FuncData),ClsAt K cn C/\Mk K C f/\vn K "__init__" qual st f fd/\mg cn=some (.ref C)/\eL K C fields
theorem pw{K:PySem.W.Frag}{mg:Str->Option Value}{h:Heap}{cn qual:Str}{st:Stmt}{fields:List Str}{C f:Addr}{oc:Value}{od an:Option Addr}{js:Array (Option Value)}{kV doc pm bM ct:Value}(X:K.In h)(G:h.Ns mainGlobals mg)
  (aC:PySem.W.nsIn K mainGlobals cn=some (some (.ref C))) (a1:PySem.W.findIn K (.ref C) "__init__"=some (some (.ref f))) (i1:PySem.W.isFn K (.ref f)=true)
  (l1:K.lookup f=some ⟨oc,od,.func (PySem.W.fnOf "__init__" qual (cD st) (bN st) (bf st) .none kV doc pm an bM ct),js⟩) (c1:PySem.W.codeIn K bM qual=true) (k1:PySem.W.keepIn K (.ref f)=true)
  (pg:PySem.W.plainGet K C Str.empty=true) (hd:PySem.W.hasDictIn K C=true) (po:PySem.W.plainOver K C=true) (sa:PySem.W.findIn K (.ref C) "__setattr__"=some (some (.builtin "object.__setattr__"))) (mk:PySem.W.makesIn K C=true) (kc:PySem.W.keepIn K (.ref C)=true)
  (nf:eL K C fields):vq K mg cn qual st fields:=
 ⟨C,f,_,⟨aC,⟨pg,hd,po,sa⟩⟩,⟨mk,a1,i1,kc⟩,vT l1 c1 k1,PySem.W.mg_of X G aC,nf⟩
end L2
namespace L2
open PySem PySem.Spec PyProof.Rows
noncomputable def zw:D->Bool
 | .non=>true
 | .bl _=>true
 | .int _=>true
 | .str _=>true
 | _=>false
def pI(i:Nat)(te:TD):TD:=fun ρ Q=>te (hX i ρ) fun r=>match r with
 | .fz d=>zw d=true/\Q (.fz d)
 | _=>False
theorem Gv{K:PySem.W.Frag}{G G':Hp}{v:V}{d:D}(h:zw d=true)(r:Rep K G v d):Rep K G' v d:=by
 cases d<;>first | (simp only[Rep] at r ⊢;exact r) | cases h
noncomputable def tM(G:Hp)(L:List Addr):Hp:=fun a=>if a∈L then none else G a
theorem Gu{G H G' H':Hp}{L:List Addr}(gp:∀q∈L,G q=none)(x:Ext (kf G H L) H G' H'):Ext G H (tM G' L) H':=by
 refine⟨fun b u e=>?_,x.h,fun b u e=>?_,fun q h1 h2=>?_⟩
 ·have hb:b∉L:=fun z=>by rw[gp b z] at e;cases e
  unfold tM;rw[if_neg hb];exact x.g b u (by rw[la hb];exact e)
 ·unfold tM at e;split at e
  ·cases e
  ·exact x.s b u e
 ·unfold tM;split
  ·rfl
  ·rename_i hq;exact x.n q (by rw[la hq];exact h1) h2
section
variable {X:Cx} {e:Expr} {te:TD} {t:gK}
theorem cz.xV{K:PySem.W.Frag}{G0 H0 G H:Hp}{ρ:Ev}{σ:St}(i:Nat)(E:cz K G0 H0 ρ σ G H):∃G1,cz K G0 H0 (hX i ρ) σ G1 H/\∀G' H',Ext G1 H G' H'->∃G2,Ext G H G2 H':=
 let⟨L,hL,E',_⟩:=E.j5 i
 ⟨_,E',fun G' H' x=>⟨_,Gu hL x⟩⟩
theorem uf(i:Nat)(h:PD X e te):PD X e (pI i te):=by
 obtain⟨tt,p,q⟩:=h;refine⟨tt,p,fun ρ σ G0 H0 G H Q P E h k=>?_⟩;obtain⟨G1,E1,back⟩:=E.xV i;refine q _ σ G0 H0 G1 H _ _ E1 h fun v H' r G' x rr hq=>?_
 split at hq
 ·rename_i d;obtain⟨G2,x2⟩:=back G' H' x;exact k v H' (.fz d) G2 x2 (Gv hq.1 rr) hq.2
 ·exact hq.elim
end
def uF:cI:=fun ds Q=>match ds with
 | [.lst es]=>match iQ es with
  | some ss=>ss.length<4000/\(∀l:List Str,l.Nodup->(∀w∈l,w∈ss)->l.length<64)/\∀l:List Str,l.Nodup->(∀w,w∈l↔w∈ss)->sortedS l=true->Q (.ow (l.map D.str))
  | none=>False
 | _=>False
end L2
namespace L2
open PySem PySem.Spec PyProof.Rows
theorem Je(t:SetTable)(n:Nat):(t.orStandIn n).led=t.led:=by
 unfold SetTable.orStandIn;split<;>rfl
theorem Bn(t:SetTable)(es:Array (Int×Value))(h:Int)(x:Value):(layNew t es h x).2.1.led=t.led:=by
 unfold layNew;split
 ·exact Je _ _
 ·rfl
theorem BD{t t':SetTable}{hs:Array Int}{wanted:Nat}{order:Array Nat}(h:t.relaid hs wanted=some (t',order)):t'.led=t.led/\t'.plain=t.plain:=by
 unfold SetTable.relaid SetTable.laid at h;cases hc:SetTable.layClean (SetTable.sizeAbove wanted-1) hs with
 | none=>rw[hc] at h;cases h
 | some owner=>
  rw[hc] at h;cases h;exact⟨rfl,rfl⟩
theorem BH(t:SetTable)(es:Array (Int×Value))(wanted:Nat)(hp:t.plain=false):(relayAll t es wanted).2.1.led=t.led/\(relayAll t es wanted).2.1.plain=false:=by
 unfold relayAll;split
 ·rename_i t' order hr;obtain⟨h1,h2⟩:=BD hr;dsimp only;split
  ·exact⟨h1,h2.trans hp⟩
  ·exact⟨rfl,rfl⟩
 ·exact⟨rfl,rfl⟩
section
variable {prog:Program} {w:World} {A:Around} {E:Value->Shared->Prop} {s:Shared}
structure lV (w:World) (es:Array (Int×Value)) (t:SetTable):Prop where
 led:t.led=!(w.params.followText "set-order")
 plain:es.size=0\/t.plain=false
structure bg (prog:Program) (w:World) (h:Heap) (a:Addr) (es:Array (Int×Value)) (ep:Nat) (t:SetTable):Prop where
 at_:h.get? a=some { cls:=.type "set",dict:=none,data:=.set es ep t,slots:=#[] }
 el:ElemsOf (strKind prog w) es.toList
 small:es.size<scanBound
 fits:t.fits es.size=true
 marks:lV w es t
def Mem(prog:Program)(w:World)(es:Array (Int×Value))(k:Str):Prop:=∃e∈es.toList,(strKind prog w).is k e.2=true
theorem mO{a:Addr}{es bJ:Array (Int×Value)}{ep:Nat}{t t':SetTable}{Q:Unit->Shared->Prop}(ho:s.heap.get? a=some { cls:=.type "set",dict:=none,data:=.set es ep t,slots:=#[] })(hb:bJ.size<scanBound)
  (h:∀h',Heap.SameBut a s.heap h'->h'.get? a=some { cls:=.type "set",dict:=none,data:=.set bJ (ep+1) t',slots:=#[] }->Q () { s with heap:=h' }):wpAny (model prog w) A (storeSet a bJ t') Q E s:=by
 refine wpAny_storeSet_of ho rfl ?_ (fits_of_scanBound hb);refine h _ (Heap.SameBut.update s.heap a (Obj.putSet bJ t')) ?_;have:=Heap.get?_update_self (Obj.putSet bJ t') ho (by rw[putSet_of bJ t' (ep:=ep) (t:=t) (es:=es) rfl];rfl);rw[putSet_of bJ t' (ep:=ep) (t:=t) (es:=es) rfl] at this;exact this
theorem gr{a:Addr}{es:Array (Int×Value)}{ep:Nat}{t:SetTable}{x:Str}{tk:Tok}{Q:Bool->Shared->Prop}(S:bg prog w s.heap a es ep t)(room:es.size+1<scanBound)
  (h:∀h' bJ eE t',Heap.SameBut a s.heap h'->bg prog w h' a bJ eE t'->((bJ=es/\Mem prog w es x)\/(¬Mem prog w es x/\List.Perm bJ.toList (es.toList++[(hashStr w x,.str x tk)])))->∀b,Q b { s with heap:=h' }) :
  wpAny (model prog w) A (setAddHashed a (.str x tk) ((strKind prog w).hash x)) Q E s:=by
 have eS:(strKind prog w).is x (.str x tk)=true:=by show Value.isStrOf x (.str x tk)=true;simp[Value.isStrOf]
 have lD:(Value.str x tk).scannable=true:=rfl;have ho:=S.at_;unfold setAddHashed setAddHashedIn;refine aQ (aa (aS ho rfl S.fits ?_));dsimp only;rw[byScan_of lD S.small S.el];simp only[↓reduceIte];unfold setAddByScan;refine aa (aa (wpAny_rule (aa (wpAny_setScan_of eS ho rfl S.fits S.el ?_))));cases hr:List.findIdx? (fun e=>(strKind prog w).is x e.2) es.toList with
 | some j=>
  dsimp only;obtain⟨hj,yk,_⟩:=List.findIdx?_eq_some_iff_getElem.mp hr;refine ab (ab ?_);exact h s.heap es ep t (Heap.SameBut.refl a s.heap) S (.inl ⟨rfl,es.toList[j],List.getElem_mem hj,yk⟩) _
 | none=>
  dsimp only;have ni:¬Mem prog w es x:=fun⟨e,he,hp⟩=>by
   have:=List.findIdx?_eq_none_iff.mp hr e he;rw[hp] at this;cases this
  have way:∀(b:Bool) {s1:Shared} {Q':Unit->Shared->Prop},Q' () s1->wpAny (model prog w) A (match b with | true=>rule "set.scan.the-table-gave-way" | false=>pure ()) Q' E s1:=fun b s1 Q' q=>by
   cases b
   ·exact ab q
   ·exact wpAny_rule q
  have ck:=layNew_perm t es ((strKind prog w).hash x) (.str x tk);have fc:=layNew_fits t es ((strKind prog w).hash x) (.str x tk);have fK:=Bn t es ((strKind prog w).hash x) (.str x tk);generalize layNew t es ((strKind prog w).hash x) (.str x tk)=L at ck fc fK ⊢;obtain⟨cO,t1,yW,yS⟩:=L;dsimp only at ck fc fK ⊢;rw[Array.toList_push] at ck;have lI:ElemsOf (strKind prog w) cO.toList:=(S.el.push eS lD).perm ck;have d0:cO.size=es.size+1:=by rw[<-ak,ck.length_eq,au,ak];rfl
  have lM:cO.size<scanBound:=by omega
  refine aa (way _ ?_)
  -- jT table,not plain any more
  have tail:∀(g:Bool->Sem Unit),(∀(b:Bool) (s1:Shared) (Q':Unit->Shared->Prop),Q' () s1->wpAny (model prog w) A (g b) Q' E s1)->∀t2:SetTable,t2.fits cO.size=true->t2.led=t.led->t2.plain=false->wpAny (model prog w) A (do
    storeSet a cO t2
    if (!yW&&t2.tooFull)=true then do
        g (relayAll t2 cO (SetTable.grown cO.size)).2.2
        storeSet a (relayAll t2 cO (SetTable.grown cO.size)).1 (relayAll t2 cO (SetTable.grown cO.size)).2.1
        pure (some true)
     else pure (some true)) (fun r s'=>wpAny (model prog w) A (match r with | some added=>pure added | none=>setAddHashedIn a (Value.str x tk) ((strKind prog w).hash x) 99999) Q E s') E s:=by
   intro g hg t2 f2 l2 p2;refine aa (mO ho lM fun h1 sd g1=>?_);have pf:∀b,Q b { s with heap:=h1 }:=h h1 cO _ t2 sd ⟨g1,lI,lM,f2,⟨l2.trans S.marks.led,.inr p2⟩⟩ (.inr ⟨ni,ck⟩)
   split
   ·have hp:=relayAll_perm t2 cO (SetTable.grown cO.size);have kC:=relayAll_fits t2 cO (SetTable.grown cO.size);have nj:=BH t2 cO (SetTable.grown cO.size) p2;generalize relayAll t2 cO (SetTable.grown cO.size)=Rl at hp kC nj ⊢;obtain⟨ja,t3,tx⟩:=Rl;dsimp only at hp kC nj ⊢;have kA:ja.size=cO.size:=by rw[<-ak,hp.length_eq,ak]
    refine aa (hg _ _ _ ?_);refine aa (mO (s:={ s with heap:=h1 }) g1 (by rw[kA];exact lM) fun h2 mZ g2=>ab (ab ?_));exact h h2 ja _ t3 (sd.trans mZ) ⟨g2,lI.perm hp,by rw[kA];exact lM,kC,⟨(nj.1.trans l2).trans S.marks.led,.inr nj.2⟩⟩ (.inr ⟨ni,hp.trans ck⟩) _
   ·exact ab (ab (pf _))
  by_cases dA:t1.plain=true
  ·rw[if_pos dA];refine aa ?_;rw[hashByValue_scannable 8 lD];refine ab ?_;have hk:plainKind (.str x tk)=false:=rfl;rw[hk];simp only[ay,aU];exact tail _ (fun b s1 Q' q=>by cases b<;>first | exact ab q | exact wpAny_rule q) { t1 with plain:=false } (SetTable.fits_plain_off fc) fK rfl
  ·rw[if_neg dA];refine aa (ab ?_);simp only[aY];exact tail _ (fun b s1 Q' q=>by cases b<;>first | exact ab q | exact wpAny_rule q) t1 fc fK (by simpa using dA)
noncomputable def keysOf(es:Array (Int×Value)):List Str:=es.toList.map fun e=>strOf e.2
theorem qV{es:Array (Int×Value)}(el:ElemsOf (strKind prog w) es.toList)(k:Str):Mem prog w es k↔k∈keysOf es:=by
 unfold Mem keysOf;rw[aF];constructor
 ·rintro⟨e,he,hk⟩;obtain⟨t,ht⟩:=Value.isStrOf_shape hk;exact⟨e,he,by rw[ht];rfl⟩
 ·rintro⟨e,he,rfl⟩;obtain⟨⟨k,hk,_⟩,_⟩:=el e he;obtain⟨t,ht⟩:=Value.isStrOf_shape hk;refine⟨e,he,?_⟩;rw[ht];show Value.isStrOf k (.str k t)=true;simp[Value.isStrOf]
theorem wI{es bJ:Array (Int×Value)}{x:Str}{tk:Tok}{hs:Int}(p:List.Perm bJ.toList (es.toList++[(hs,.str x tk)])):List.Perm (keysOf bJ) (keysOf es++[x]):=by
 have:=p.map fun e=>strOf e.2
 rw[aO] at this;exact this
structure Holds (es:Array (Int×Value)) (xs:List Str):Prop where
 nd:(keysOf es).Nodup
 mem:∀x,x∈keysOf es↔x∈xs
 len:es.size<=xs.length
theorem Holds.put{es bJ:Array (Int×Value)}{xs:List Str}{x:Str}{tk:Tok}(H:Holds es xs)(el:ElemsOf (strKind prog w) es.toList)
  (h:(bJ=es/\Mem prog w es x)\/(¬Mem prog w es x/\List.Perm bJ.toList (es.toList++[(hashStr w x,.str x tk)]))):Holds bJ (xs++[x]):=by
 rcases h with⟨rfl,hm⟩ | ⟨hm,hp⟩
 ·refine⟨H.nd,fun y=>?_,by simp;have:=H.len;omega⟩;rw[aA,<-H.mem,aD];constructor
  ·exact .inl
  ·rintro(h | rfl)
   ·exact h
   ·exact(qV el _).mp hm
 ·have hk:=wI hp;refine⟨hk.nodup_iff.mpr ?_,fun y=>?_,?_⟩
  ·rw[List.nodup_append];refine⟨H.nd,by simp,fun a ha b hb=>?_⟩;rw[aD.mp hb];rintro rfl;exact hm ((qV el _).mpr ha)
  ·rw[hk.mem_iff,aA,aA,H.mem]
  ·have e1:=hk.length_eq;have e2:(keysOf bJ).length=bJ.size:=by simp[keysOf]
   have e3:(keysOf es).length=es.size:=by simp[keysOf]
   have:=H.len;simp only[au,aw,aT] at e1 ⊢;omega
theorem bg.kept{h h':Heap}{a:Addr}{es:Array (Int×Value)}{ep:Nat}{t:SetTable}(S:bg prog w h a es ep t)(k:∀o,h.get? a=some o->h'.get? a=some o):bg prog w h' a es ep t:=⟨k _ S.at_,S.el,S.small,S.fits,S.marks⟩
end
section
variable {prog:Program} {w:World} {A:Around} {R:Result->Shared->Prop} {I:Addr} {fp wr:List Addr} {G:Array GenState->Array GenState->Prop} {n:Nat} {P:Nat->Value->Prop} {St:Nat->Shared->Prop}
theorem wH(W:WalksS prog w A.in1 I fp wr G n P St)(S:Addr)(kU:S∉fp)(xs:List Str)(hx:xs.length=n)(jE:∀i v,P i v->∃x t,xs[i]?=some x/\v=.str x t)(hb:n+1<scanBound) :
  ∀(k i:Nat) (s:Shared) (es:Array (Int×Value)) (ep:Nat) (t:SetTable),n-i=k->i<=n->St i s->bg prog w s.heap S es ep t->Holds es (xs.take i)->
   (∀s' bJ eE t',Moved (S::wr) G s s'->bg prog w s'.heap S bJ eE t'->Holds bJ xs->R (.ok (.ret .none)) s')->codeAny (model prog w) A (.builtin "set.update.loop" ⟨[.ref S,.ref I],[]⟩) R s:=by
 have lr:S∉wr:=fun h=>kU (W.sub _ h)
 have more:∀b∈wr,b∈S::wr:=fun b hb=>aM _ hb
 intro k;induction k with
 | zero=>
  intro i s es ep t hk hi st T H q;have e:i=n:=by omega
  subst e;refine codeAny_builtin PyProof.Rows.F.entry_set_update_loop ?_;rw[Around.under_plainId aR _];show wpAny _ A.in1 (pyNext (.ref I) >>= _) _ _ s;refine aa (W.done s _ _ st fun s' hm=>?_);show wpAny _ A.in1 (ret Value.none) _ _ s';rw[<-hx,List.take_length] at H;exact ab (q s' es ep t (hm.mono more) (T.kept fun o e=>hm.heap S _ lr e) H)
 | succ k ih=>
  intro i s es ep t hk hi st T H q;have dg:i<n:=by omega
  refine codeAny_builtin PyProof.Rows.F.entry_set_update_loop ?_;rw[Around.under_plainId aR _];show wpAny _ A.in1 (pyNext (.ref I) >>= _) _ _ s;refine aa (W.item i s _ _ dg st fun v s' hP iW hm=>?_);obtain⟨x,tk,x9,rfl⟩:=jE i v hP;have T':bg prog w s'.heap S es ep t:=T.kept fun o e=>hm.heap S _ lr e
  show wpAny _ A.in1 (holding [Value.str x tk] (setAdd S (.str x tk)) >>= _) _ _ s';refine aa (aQ ?_);unfold setAdd;refine aQ (aa ((strKind prog w).pyHash (k:=x) (by show Value.isStrOf x (.str x tk)=true;simp[Value.isStrOf]) ?_));have hl:=H.len;rw[aL] at hl;refine gr (s:={ s' with toks:=s'.toks+1 }) T' (by omega) fun h' bJ eE t' sb T2 lF b=>?_
  have nU:xs.take (i+1)=xs.take i++[x]:=by rw[List.take_add_one,x9];rfl
  have H2:Holds bJ (xs.take (i+1)):=by rw[nU];exact H.put T.el lF
  refine ab ⟨plainId_quiet aR _,ih (i+1) _ bJ eE t' (by omega) dg (W.frame _ s' _ _ iW (Nat.le_succ _) fun b hb o e=>?_) T2 H2 fun s2 ja pj t2 gV T3 H3=>?_⟩
  ·rw[sb.2 b (fun z:b=S=>kU (by rw[<-z];exact hb))];exact e
  ·refine q s2 ja pj t2 (Moved.trans W.gtrans ((hm.mono more).then_heap (Nat.le_succ _) fun b o hb e=>?_) gV) T3 H3;rw[sb.2 b (fun z:b=S=>hb (by rw[z];exact List.mem_cons_self))];exact e
end
end L2
namespace L2
open PySem PySem.Spec PyProof.Rows
section
variable {prog:Program} {w:World} {A:Around} {E:Value->Shared->Prop} {s:Shared}
noncomputable abbrev eJ(w:World):Obj:={ cls:=.type "set",dict:=none,data:=.set #[] 0 (.fresh 0 0 (!(w.params.followText "set-order"))) }
theorem AE(a:Value){Q1:Value->Shared->Prop}(h:Q1 (.ref s.heap.objs.size) { s with heap:=s.heap.push (eJ w) }) :
  codeAny (model prog w) A (.call (.builtin "set.__new__") ⟨[.type "set",a],[]⟩) (wants Q1 E) s:=by
 refine codeAny_of_tree ?_;show wpAny _ A.in1 (do checkBuiltinCall "set.__new__" ⟨[.type "set",a],[]⟩;again (.builtin "set.__new__" ⟨[.type "set",a],[]⟩)) _ _ s;refine aa (wpAny_of_eq (PySem.F.newCall_set_1 a) (ab ⟨plainId_quiet PySem.F.plain_set_new _,codeAny_builtin PySem.F.entry_set_new ?_⟩));rw[Around.under_plainId PySem.F.plain_set_new _];unfold Builtin.«set.__new__» Builtin.Frozenset.newClass;have sM:=PySem.sub_set_self;obtain⟨hp,g,d,tk,os⟩:=s;dsimp only;wp_walk
 refine wpAny_askSetting (ab ?_);dsimp only;simp only[newObj];refine aa (wpAny_alloc (ab ?_));exact ab h
theorem gu{h:Heap}{a:Addr}(e:h.get? a=some (eJ w)):bg prog w h a #[] 0 (.fresh 0 0 (!(w.params.followText "set-order"))):=
 ⟨e,fun x hx=>by simp at hx,by show 0<4096;decide,by simp[SetTable.fits,SetTable.fresh,SetTable.fill],⟨rfl,.inl rfl⟩⟩
theorem GI{l:Addr}{items:List Value}{xs:List Str}{Q:Value->Shared->Prop}(hh:A.handled=none)(hl:s.heap.IsList l items.toArray)(hi:StrsAre items xs)(hb:xs.length+1<scanBound)
  (h:∀(h':Heap) (tk:Nat) es ep t,bg prog w h' s.heap.objs.size es ep t->L2.Holds es xs->(∀b o,b<s.heap.objs.size->s.heap.get? b=some o->h'.get? b=some o)->Q (.ref s.heap.objs.size) { s with heap:=h',toks:=tk }) :
  wpAny (model prog w) A (call (.type "set") [.ref l]) Q E s:=by
 obtain⟨c,tl,yq⟩:=PySem.F.called_set.mro;have sS:=PySem.F.called_set.made;have sM:=PySem.F.called_set.sub;refine wpAny_call (codeAny_of_tree ?_);show wpAny _ _ (callAny (.type "set") _) _ _ _;refine ab ⟨Code.quiet_builtin _ (by decide +kernel),codeAny_builtin PySem.F.entry_type_call ?_⟩;rw[Around.under_plain (weight_type_call_type "set" [.ref l] []) rfl];have h1:=PySem.F.called_set.notType;have h2:=PySem.F.called_set.canCreate;have Ly:=PySem.F.typeCall_set_1 (.ref l);repeat(any_goals (first | assumption | wp_step))
 refine codeAny_mono (AE (.ref l) (E:=E) (Q1:=fun obj s1=>obj=.ref s.heap.objs.size/\s1={ s with heap:=s.heap.push (eJ w) }) ⟨rfl,rfl⟩) fun r s1 hr=>?_
 cases r with
 | error e=>exact hr
 | ok fl=>
  cases fl with
  | ret obj=>
   obtain⟨rfl,rfl⟩:=hr;have hS:(s.heap.push (eJ w)).get? s.heap.objs.size=some (eJ w):=ao _ rfl;have hT:Shared.TypeIs { s with heap:=s.heap.push (eJ w) } (.ref s.heap.objs.size) "set":=⟨_,hS,rfl⟩
   have Lj:=PySem.F.called_set.init.lookup;have LA:=PySem.F.called_set.init.bind (.ref s.heap.objs.size);repeat(any_goals (first | assumption | wp_step))
   refine codeAny_mono (codeAny_call_builtin (R:=wants (fun r s2=>r=.none/\∃h' tk es ep t,s2={ s with heap:=h',toks:=tk }/\bg prog w h' s.heap.objs.size es ep t/\L2.Holds es xs/\
     (∀b o,b<s.heap.objs.size->s.heap.get? b=some o->h'.get? b=some o)) E) PySem.F.called_set.init.plain PySem.F.entry_set_init (check_set_init_1 hT ?_)) fun r2 s2 oZ=>?_
   ·obtain⟨ol,oe,iJ,nl,tm⟩:=hl;obtain⟨xQ,lx,sg,jA⟩:=ol;simp only at iJ tm;subst iJ tm;have lG:(s.heap.push (eJ w)).get? l=some { cls:=.type "list",dict:=lx,data:=.seq items.toArray nl,slots:=jA }:=ae _ oe;have yf:=PySem.F.sub_list_set;have yg:=PySem.F.sub_list_frozenset;have cH:(Value.type "list"==Value.type "dict")=false:=by decide
    have j3:(s.heap.push (eJ w)).IsList l items.toArray:=⟨_,lG,rfl,nl,rfl⟩
    unfold Builtin.«set.__init__» noKeywords Builtin.Frozenset.updateFrom;generalize yN:pyIter=PI;wp_walk
    subst yN;refine wpAny_pyIter_list j3 (aa (wpAny_runValue ?_));have sU:l<s.heap.objs.size:=aj oe;have yD:A.in1.in1.in1.handled=none:=by simp[hh]
    have d0:(s.heap.push (eJ w)).objs.size=s.heap.objs.size+1:=Heap.size_push ..;have o5:l≠(s.heap.push (eJ w)).objs.size:=by rw[d0];exact az (Nat.lt_succ_of_lt sU)
    have kU:s.heap.objs.size∉[(s.heap.push (eJ w)).objs.size,l]:=by
     rw[d0];simp only[ai,aB,or_false,not_or];exact⟨az (Nat.lt_succ_self _),Nat.ne_of_gt sU⟩
    have qe:xs.length=items.toArray.size:=by
     rw[ah];clear oe lG j3 h hb;induction hi with
     | nil=>rfl
     | cons _ _ _ ih=>simp[ih]
    have jE:∀(i:Nat) (v:Value),items.toArray[i]?=some v->∃x t,xs[i]?=some x/\v=.str x t:=fun i v hv=>by
     rw[List.getElem?_toArray] at hv;clear oe lG j3 h hb qe;induction hi generalizing i with
     | nil=>simp at hv
     | cons x t hr ih=>
      cases i with
      | zero=>simp at hv;exact⟨x,t,rfl,hv.symm⟩
      | succ i=>simp only[List.getElem?_cons_succ] at hv ⊢;exact ih i hv
    refine wH ((Walks.list yD _ l o5 items.toArray).toS) s.heap.objs.size kU xs qe jE (by omega) (items.toArray.size-0) 0 _ #[] 0 _ (by omega) (Nat.zero_le _)
     ⟨⟨_,ao _ rfl,rfl,rfl⟩,(j3.push _)⟩ (gu (ae _ hS)) ⟨by simp[keysOf],by simp[keysOf],by simp⟩ ?hR
    case hR=>
     intro s' es ep t hm T H;obtain⟨h',g',d',xF,sf⟩:=s';have eg:g'=s.gens:=hm.gens;have ed:d'=s.drawn:=hm.drawn;have eo:sf=s.os:=hm.os;subst eg ed eo;show wpAny _ _ _ _ _ _;refine ab ?_;show wpAny _ _ (ret Value.none) _ _ _;refine ab ⟨rfl,h',xF,es,ep,t,rfl,T,H,fun b o hb e=>?_⟩;refine hm.heap b o ?_ (ae _ (ae _ e));rw[d0];simp only[ai,aB,or_false,not_or];exact⟨az hb,az (Nat.lt_succ_of_lt hb)⟩
   ·cases r2 with
    | error e=>exact oZ
    | ok yU=>
     cases yU with
     | ret r=>
      obtain⟨rfl,h',tk,es,ep,t,rfl,T,H,i7⟩:=oZ;repeat(any_goals (first | assumption | wp_step))
      exact h _ _ es ep t T H i7
     | _=>exact oZ.elim
  | _=>exact hr.elim
end
end L2
namespace L2
open PySem PySem.Spec PyProof.Rows
theorem dG:Slot "set_iterator" "__next__" "set_iterator.__next__":=
 .of (owner:="set_iterator") (n:="__next__") (by rw[typeLookup_type,builtinLookup_eq_fast];kernel_rfl) (by decide +kernel) (by decide +kernel) (by decide +kernel) (by first | exact .inl (by decide +kernel) | exact .inr (by decide +kernel)) (by rw[isSubtype_type];kernel_rfl)
theorem Aa:Slot "set_iterator" "__iter__" "set_iterator.__iter__":=
 .of (owner:="set_iterator") (n:="__iter__") (by rw[typeLookup_type,builtinLookup_eq_fast];kernel_rfl) (by decide +kernel) (by decide +kernel) (by decide +kernel) (by first | exact .inl (by decide +kernel) | exact .inr (by decide +kernel)) (by rw[isSubtype_type];kernel_rfl)
theorem z9:entryFor table "set_iterator.__next__"=some Builtin.«set_iterator.__next__»:=entryFor_of_fast (by kernel_rfl)
theorem FI:entryFor table "set_iterator.__iter__"=some Builtin.«dict_keyiterator.__iter__»:=entryFor_alias (id':="dict_keyiterator.__iter__") (by kernel_rfl) rfl (by decide +kernel) (by kernel_rfl)
theorem Gs:entryFor table "set.__iter__"=some Builtin.«frozenset.__iter__»:=entryFor_alias (id':="frozenset.__iter__") (by kernel_rfl) rfl (by decide +kernel) (by kernel_rfl)
theorem z8(a:Value):argsOk "set_iterator.__next__" ⟨[a],[]⟩:=by unfold argsOk;kernel_rfl
theorem Ex(a:Value):argsOk "set_iterator.__iter__" ⟨[a],[]⟩:=by unfold argsOk;kernel_rfl
section
variable {prog:Program} {w:World} {A:Around} {E:Value->Shared->Prop} {s:Shared}
theorem uE{α:Type}:∀{l:List α} {i:Nat} (h:i<l.length),(l[i]::l.eraseIdx i).Perm l
 | a::r,0,_=>.refl _
 | a::r,i+1,h=>by
  simp only[List.getElem_cons_succ,List.eraseIdx_cons_succ];exact(List.Perm.swap _ _ _).trans ((uE (by simpa using h)).cons a)
theorem Io{M:Model}{src:Source}{n:Nat}{Q:Nat->Shared->Prop}(hn:n≠0)(h:∀i d,i<n->Q i { s with drawn:=d }):wpAny M A (choose src n) Q E s:=fun Γ p _=>by
 show Sem.wp M Γ (.choose src n .pure) _ _ p s;rw[Sem.wp_choose];exact⟨hn,h _ _ (Nat.mod_lt _ (Nat.pos_of_ne_zero hn))⟩
theorem wG{M:Model}{α:Type}:∀(n:Nat) (xs:List α) (s:Shared) (Q:List α->Shared->Prop),xs.length<=n->(∀ys d,ys.Perm xs->Q ys { s with drawn:=d })->wpAny M A (drawOrder n xs) Q E s
 | 0,xs,s,Q,hl,q=>by
  have:xs=[]:=List.eq_nil_of_length_eq_zero (by omega);subst this;unfold drawOrder;exact ab (q [] s.drawn (.refl _))
 | n+1,[],s,Q,hl,q=>by
  unfold drawOrder;exact ab (q [] s.drawn (.refl _))
 | n+1,x::r,s,Q,hl,q=>by
  unfold drawOrder;refine aa (Io (by simp) fun i d hi=>?_);rw[ar hi];dsimp only;refine aa (wG n _ _ _ (by rw[List.length_eraseIdx];split<;>simp at hl ⊢<;>omega) fun ys d' hp=>ab ?_);exact q _ d' ((hp.cons _).trans (uE hi))
theorem z7{α:Type}(f:Nat->Nat):∀(n k:Nat) (left:List α) (out:Array α),left.length=n->(pickOrder.go f n k left out).toList.Perm (out.toList++left)
 | 0,k,left,out,h=>by
  have:left=[]:=List.eq_nil_of_length_eq_zero h;subst this;simp[pickOrder.go]
 | n+1,k,left,out,h=>by
  unfold pickOrder.go;have dg:f k%left.length<left.length:=Nat.mod_lt _ (by omega);rw[ar dg];dsimp only;refine(z7 f n (k+1) _ _ (by rw[List.length_eraseIdx,if_pos dg];omega)).trans ?_;rw[Array.toList_push,List.append_assoc];exact(List.Perm.refl _).append (uE dg)
theorem zev{α:Type}(f:Nat->Nat)(xs:Array α):(pickOrder f xs).toList.Perm xs.toList:=by
 have:=z7 f xs.size 0 xs.toList #[] (by simp);simpa[pickOrder] using this
noncomputable abbrev l6(first:Value)(i:Nat)(S:Addr)(n ep:Nat):Obj:={ cls:=.type "set_iterator",data:=.fields #[first,.int i 0,.ref S,.int n 0,.int ep 0] }
theorem wY{a:Addr}{es:Array (Int×Value)}{ep:Nat}{t:SetTable}{Q:Array (Int×Value)->Shared->Prop}(S:bg prog w s.heap a es ep t)(h:Q es s):wpAny (model prog w) A (setEntries a) Q E s:=by
 unfold setEntries;exact aa (aS S.at_ rfl S.fits (ab h))
theorem AD{I:Addr}{o:Obj}{vs:Array Value}{Q:Option Value->Shared->Prop}{K:Fin->Shared->Prop}(hh:A.handled=none)(ho:s.heap.get? I=some o)(hd:o.data=.fields vs)(hv:2<vs.size)
  (hQ:∀h',Heap.ExtBut I s.heap h'->Q none { s with heap:=h' }) :
  wpAny (model prog w) A.in1 (do setField (.ref I) 2 .none;raiseNew (<-newExc (.type "StopIteration") []):Sem Fin) K (fun e s'=>wpAny (model prog w) A (do if <-isInstance e (.type "StopIteration") then pure none else throw e:Sem (Option Value)) Q E s') s:=by
 refine aa (wpAny_setField ho hd hv ?_);show wpAny _ _ (newExc (.type "StopIteration") [] >>= _) _ _ _;refine aa ?_;simp only[newExc,newTuple];refine aa (wpAny_newObj_type ?_ (by size_fits));refine aa (m:=firstArgMember _ _) (wpAny_of_eq (a:=Value.none) (by first | rfl | (simp only[firstArgMember];rfl)) ?_);refine wpAny_newObj_type ?_ (by size_fits);simp only[raiseNew];refine aa (wpAny_handled ?_);rw[show A.in1.handled=none from hh];refine aa (ab (wpAny_throw ?_));refine aa (wpAny_isInstance (T:="StopIteration") (b:=true) ⟨_,ao _ rfl,rfl⟩ isSubtype_stop ?_);exact ab (hQ _ (((Heap.SameBut.update ..).extBut.push _).push _))
end
end L2
namespace L2
open PySem PySem.Spec PyProof.Rows
section
variable {prog:Program} {w:World} {A:Around} {E:Value->Shared->Prop} {s:Shared}
theorem uq{I S:Addr}{es:Array (Int×Value)}{ep:Nat}{t:SetTable}{sl i:Nat}{Q:Option Value->Shared->Prop}(hh:A.handled=none)(hI:s.heap.get? I=some (l6 (.int sl 0) i S es.size ep))(T:bg prog w s.heap S es ep t)(r:Option (Value×Nat))
  (hN:∀(Q':Option (Value×Nat)->Shared->Prop) (E':Value->Shared->Prop),Q' r s->wpAny (model prog w) A.in1 (setNext S sl i ep) Q' E' s)
  (hs:∀x j,r=some (x,j)->∀h',Heap.SameBut I s.heap h'->h'.get? I=some (l6 (.int j 0) (i+1) S es.size ep)->Q (some x) { s with heap:=h' })
  (hn:r=none->∀h',Heap.ExtBut I s.heap h'->Q none { s with heap:=h' }):wpAny (model prog w) A (pyNext (.ref I)) Q E s:=by
 have hT:s.TypeIs (.ref I) "set_iterator":=⟨_,hI,rfl⟩
 unfold pyNext;refine aa (wpAny_attempt (wpAny_callSpecial?_slot (name:=Str.ofString "__next__") hT dG (wpAny_call_entry dG hT z9 ?_ (z8 _))));show wpAny _ _ (fieldsOf (.ref I) >>= _) _ _ s;refine aa (wpAny_fieldsOf hI rfl ?_);dsimp only;refine aa (wY T ?_);simp only[bne_self_eq_false,ay,aU];simp only[Int.toNat_natCast];refine aa (hN _ _ ?_);cases r with
 | none=>exact AD hh hI rfl (by simp) (hn rfl)
 | some p=>
  obtain⟨x,j⟩:=p;dsimp only;refine aa (wpAny_setField_rec hI (by simp) fun h1 g1 b1=>?_);refine aa (wpAny_setField_rec (s:={ s with heap:=h1 }) g1 (by simp) fun h2 g2 b2=>?_);refine ab ⟨x,rfl,ab (hs x j rfl h2 (b1.trans b2) ?_)⟩;rw[g2];simp[rawInt]
theorem AB{I S Tp:Addr}{es:Array (Int×Value)}{ep:Nat}{t:SetTable}{ps:List Nat}{i:Nat}{Q:Option Value->Shared->Prop}(hh:A.handled=none)(hI:s.heap.get? I=some (l6 (.ref Tp) i S es.size ep))(T:bg prog w s.heap S es ep t)
  (LF:s.heap.get? Tp=some { cls:=.type "tuple",data:=.seq (ps.map fun(p:Nat)=>rawInt p).toArray })
  (hs:∀p e,ps[i]?=some p->es[p]?=some e->∀h',Heap.SameBut I s.heap h'->h'.get? I=some (l6 (.ref Tp) (i+1) S es.size ep)->Q (some e.2) { s with heap:=h' })
  (qk:∀p∈ps,p<es.size) (hn:ps[i]?=none->∀h',Heap.ExtBut I s.heap h'->Q none { s with heap:=h' }):wpAny (model prog w) A (pyNext (.ref I)) Q E s:=by
 have hT:s.TypeIs (.ref I) "set_iterator":=⟨_,hI,rfl⟩
 unfold pyNext;refine aa (wpAny_attempt (wpAny_callSpecial?_slot (name:=Str.ofString "__next__") hT dG (wpAny_call_entry dG hT z9 ?_ (z8 _))));show wpAny _ _ (fieldsOf (.ref I) >>= _) _ _ s;refine aa (wpAny_fieldsOf hI rfl ?_);dsimp only;refine aa (wY T ?_);simp only[bne_self_eq_false,ay,aU];refine aa (wpAny_seqItems LF rfl ?_);dsimp only;simp only[Int.toNat_natCast,List.getElem?_toArray,aK];cases hp:ps[i]? with
 | none=>
  simp only[Option.map_none];refine aa (wpAny_setField_rec hI (by simp) fun h1 g1 b1=>?_);exact AD (s:={ s with heap:=h1 }) hh g1 rfl (by simp) fun h' x=>hn hp h' (b1.extBut.trans x)
 | some p=>
  simp only[Option.map_some,rawInt,Int.toNat_natCast];have dg:=qk p (List.mem_of_getElem? hp);have he:es[p]?=some es[p]:=by simp[dg]
  unfold setNextDrawn;refine aa (aa (aS T.at_ rfl T.fits ?_));simp only[bne_self_eq_false,ay,aU,he];refine ab ?_;refine aa (wpAny_setField_rec hI (by simp) fun h1 g1 b1=>?_);refine ab ⟨_,rfl,ab (hs p es[p] hp he h1 b1 ?_)⟩;rw[g1];simp
theorem Bk{S:Addr}{es:Array (Int×Value)}{ep:Nat}{t:SetTable}(T:bg prog w s.heap S es ep t)(sl i:Nat)(hf:w.params.followText "set-order"=true)(Q:Option (Value×Nat)->Shared->Prop)
  (q:Q (((pickOrder (w.params.setOrder S ep) es)[i]?).map fun e=>(e.2,sl)) s):wpAny (model prog w) A (setNext S sl i ep) Q E s:=by
 unfold setNext;refine aa (aS T.at_ rfl T.fits ?_);dsimp only;unfold setsByText;refine aa (aa (wpAny_askSetting (ab ?_)));rw[show(model prog w).w.params.followText "set-order"=true from hf];simp only[bne_self_eq_false,ay,aU,aY];unfold setWalk;refine aa (aa (aS T.at_ rfl T.fits ?_));dsimp only;unfold setsByText;refine aa (aa (wpAny_askSetting (ab ?_)));rw[show(model prog w).w.params.followText "set-order"=true from hf];simp only[aY];exact aa (wpAny_askSetting (ab (ab q)))
theorem Bm{S:Addr}{es:Array (Int×Value)}{ep:Nat}{t:SetTable}(T:bg prog w s.heap S es ep t)(sl i:Nat)(hf:w.params.followText "set-order"=false)(h1:es.size<=1)(Q:Option (Value×Nat)->Shared->Prop)
  (q:Q (match es[SetTable.below t.place sl]?,t.place[SetTable.below t.place sl]? with | some (_,x),some j=>some (x,j+1) | _,_=>none) s):wpAny (model prog w) A (setNext S sl i ep) Q E s:=by
 unfold setNext;refine aa (aS T.at_ rfl T.fits ?_);dsimp only;unfold setsByText;refine aa (aa (wpAny_askSetting (ab ?_)));rw[show(model prog w).w.params.followText "set-order"=false from hf];simp only[ay,aU];have hl:t.led=true:=by rw[T.marks.led,hf];rfl
 have hd:(!t.plain&&decide (es.size>1))=false:=by
  rw[decide_eq_false (by omega)];simp
 refine wpAny_ite_split (fun h=>absurd (show(!t.plain&&decide (es.size>1))=true from h) (by rw[hd];simp)) fun _=>?_
 refine aa ?_;show wpAny _ _ (ite ((!t.led&&!es.isEmpty)=true) _ _) _ _ _;rw[hl];simp only[Bool.not_true,Bool.false_and,ay,aU];exact ab (ab q)
theorem wg{I S:Addr}{h h':Heap}{es:Array (Int×Value)}{ep:Nat}{t:SetTable}(T:bg prog w h S es ep t)(cH:S≠I)(b:Heap.SameBut I h h'):bg prog w h' S es ep t:=T.kept fun o e=>by rw[b.2 S cH];exact e
abbrev vo(vals:List Value):Nat->Value->Prop:=fun i v=>vals[i]?=some v
theorem vZ{I S:Addr}{first:Value}{i n ep:Nat}{Q:Value->Shared->Prop}(hI:s.heap.get? I=some (l6 first i S n ep))(q:Q (.ref I) s):wpAny (model prog w) A (pyIter (.ref I)) Q E s:=by
 have hT:s.TypeIs (.ref I) "set_iterator":=⟨_,hI,rfl⟩
 refine wpAny_pyIter_slot hT Aa (wpAny_call_entry Aa hT FI ?_ (Ex _));show wpAny _ _ (ret (.ref I)) _ _ s;exact ab ⟨_,rfl,"set_iterator",_,hT,dG.lookup,q⟩
theorem GH{I S:Addr}{es:Array (Int×Value)}{ep:Nat}{t:SetTable}(cH:S≠I)(hf:w.params.followText "set-order"=true)(hh:A.handled=none) :
  Walks prog w A I [I,S] [I] es.size (vo ((pickOrder (w.params.setOrder S ep) es).toList.map (·.2))) (fun i h=>h.get? I=some (l6 (.int 0 0) i S es.size ep)/\bg prog w h S es ep t):=by
 have hp:=zev (w.params.setOrder S ep) es;have hl:(pickOrder (w.params.setOrder S ep) es).size=es.size:=by rw[<-ak,hp.length_eq,ak]
 refine⟨fun b hb=>by simp at hb;simp[hb],fun i h h' st k=>⟨k I (by simp) _ st.1,st.2.kept (k S (by simp))⟩,fun i s Q E hi st q=>?_,fun s Q E st q=>?_,fun i s Q E st q=>vZ st.1 q⟩
 ·have mv:i<(pickOrder (w.params.setOrder S ep) es).size:=by omega
  refine uq (sl:=0) hh st.1 st.2 _ (fun Q' E' q'=>Bk st.2 0 i hf Q' q') (fun x j e h' b g=>?_) (fun e=>?_)
  ·rw[Array.getElem?_eq_getElem mv] at e;simp only[Option.map_some,aV,Prod.mk.injEq] at e;obtain⟨rfl,rfl⟩:=e;exact q _ h' s.toks (by show(List.map _ _)[i]?=_;rw[aK,Array.getElem?_toList,Array.getElem?_eq_getElem mv];rfl) ⟨g,wg st.2 cH b⟩ fun c o hc e=>by rw[b.2 c (by simpa using hc)];exact e
  ·rw[Array.getElem?_eq_getElem mv] at e;cases e
 ·refine uq (sl:=0) hh st.1 st.2 _ (fun Q' E' q'=>Bk st.2 0 _ hf Q' q') (fun x j e=>?_) (fun _ h' b=>q h' s.toks fun c o hc e=>b c o (by simpa using hc) e);rw[Array.getElem?_eq_none (by omega)] at e;cases e
theorem zN(p j:Nat):SetTable.below #[p] j=if p<j then 1 else 0:=by
 unfold SetTable.below;simp only[ah,aw,aT,Nat.zero_add];unfold SetTable.below.go;simp;split<;>unfold SetTable.below.go<;>rfl
theorem Im{I S:Addr}{es:Array (Int×Value)}{ep:Nat}{t:SetTable}(cH:S≠I)(hf:w.params.followText "set-order"=false)(h1:es.size<=1)(hh:A.handled=none) :
  Walks prog w A I [I,S] [I] es.size (vo (es.toList.map (·.2))) (fun i h=>∃sl:Nat,h.get? I=some (l6 (.int sl 0) i S es.size ep)/\bg prog w h S es ep t/\(i=0->sl=0)/\(1<=i->∃p,t.place=#[p]/\sl=p+1)):=by
 refine⟨fun b hb=>by simp at hb;simp[hb],fun i h h' st k=>?_,fun i s Q E hi st q=>?_,fun s Q E st q=>?_,fun i s Q E st q=>?_⟩
 ·obtain⟨sl,a,T,b,c⟩:=st;exact⟨sl,k I (by simp) _ a,T.kept (k S (by simp)),b,c⟩
 ·obtain⟨sl,a,T,b,c⟩:=st;have Ld:es.size=1:=by omega
  have Lr:i=0:=by omega
  subst Lr;have yh:=b rfl;subst yh;obtain⟨e,rfl⟩:∃e,es=#[e]:=by
   obtain⟨l⟩:=es;match l,Ld with
   | [e],_=>exact⟨e,rfl⟩
  obtain⟨p,hp⟩:∃p,t.place=#[p]:=by
   have sZ:=T.fits;simp only[SetTable.fits,Bool.and_eq_true,beq_iff_eq] at sZ;have uU:t.place.size=1:=sZ.1;generalize t.place=pl at uU ⊢;obtain⟨l⟩:=pl;match l,uU with
   | [p],_=>exact⟨p,rfl⟩
  refine uq hh a T (some (e.2,p+1)) (fun Q' E' q'=>Bm T _ _ hf h1 Q' ?_) (fun x j ej h' bb g=>?_) (fun z=>nomatch z)
  ·rw[hp,zN,if_neg (Nat.not_lt_zero _)];exact q'
  ·cases ej;exact q _ h' s.toks rfl ⟨p+1,g,wg T cH bb,fun z=>by omega,fun _=>⟨p,hp,rfl⟩⟩ fun c o hc e=>by rw[bb.2 c (by simpa using hc)];exact e
 ·obtain⟨sl,a,T,b,c⟩:=st;refine uq hh a T none (fun Q' E' q'=>Bm T _ _ hf h1 Q' ?_) (fun x j e=>nomatch e) (fun _ h' b=>q h' s.toks fun c o hc e=>b c o (by simpa using hc) e);have he:es[SetTable.below t.place sl]?=none:=by
   by_cases h0:es.size=0
   ·exact Array.getElem?_eq_none (by omega)
   ·obtain⟨p,hp,yh⟩:=c (by omega);rw[hp,yh,zN,if_pos (Nat.lt_succ_self _)];exact Array.getElem?_eq_none (by omega)
  rw[he];exact q'
 ·obtain⟨sl,a,T,b,c⟩:=st;exact vZ a q
theorem Il{I S Tp:Addr}{es:Array (Int×Value)}{ep:Nat}{t:SetTable}{ps:List Nat}(cH:S≠I)(yp:Tp≠I)(hp:ps.Perm (List.range es.size))(hh:A.handled=none) :
  Walks prog w A I [I,Tp,S] [I] es.size (vo (ps.map fun p=>(es.getD p (0,.none)).2)) (fun i h=>h.get? I=some (l6 (.ref Tp) i S es.size ep)/\bg prog w h S es ep t/\h.get? Tp=some { cls:=.type "tuple",data:=.seq (ps.map fun(p:Nat)=>rawInt p).toArray }):=by
 have qk:∀p∈ps,p<es.size:=fun p h=>List.mem_range.mp (hp.mem_iff.mp h)
 have hl:ps.length=es.size:=by rw[hp.length_eq,List.length_range]
 refine⟨fun b hb=>by simp at hb;simp[hb],fun i h h' st k=>⟨k I (by simp) _ st.1,st.2.1.kept (k S (by simp)),k Tp (by simp) _ st.2.2⟩,fun i s Q E hi st q=>?_,fun s Q E st q=>?_,fun i s Q E st q=>vZ st.1 q⟩
 ·have mv:i<ps.length:=by omega
  refine AB hh st.1 st.2.1 st.2.2 (fun p e h1 h2 h' b g=>?_) qk (fun z=>by rw[ar mv] at z;cases z);refine q _ h' s.toks ?_ ⟨g,wg st.2.1 cH b,by rw[b.2 Tp yp];exact st.2.2⟩ fun c o hc e=>by rw[b.2 c (by simpa using hc)];exact e
  show(List.map _ _)[i]?=_;rw[aK,h1];simp[h2]
 ·refine AB hh st.1 st.2.1 st.2.2 (fun p e h1=>?_) qk (fun _ h' b=>q h' s.toks fun c o hc e=>b c o (by simpa using hc) e);rw[List.getElem?_eq_none (by omega)] at h1;cases h1
end
end L2
namespace L2
open PySem PySem.Spec PyProof.Rows
section
variable {prog:Program} {w:World} {A:Around} {E:Value->Shared->Prop} {s:Shared}
structure Laid (prog:Program) (w:World) (h:Heap) (a:Addr) (es:Array (Int×Value)) (I:Addr) (h':Heap):Prop where
 ex:∃(fp:List Addr) (vals:List Value) (St:Nat->Heap->Prop),vals.Perm (es.toList.map (·.2))/\(∀A:Around,A.handled=none->Walks prog w A I fp [I] es.size (vo vals) St)/\St 0 h'/\∀b∈fp,b=a\/h.objs.size<=b
 old:∀b o,h.get? b=some o->h'.get? b=some o
 new:h.objs.size<=I
 type:∃o,h'.get? I=some o/\o.cls=.type "set_iterator"
theorem GG{es:Array (Int×Value)}{ps:List Nat}(hp:ps.Perm (List.range es.size)):(ps.map fun p=>(es.getD p (0,.none)).2).Perm (es.toList.map (·.2)):=by
 refine(hp.map _).trans ?_;have e:(List.range es.size).map (fun p=>(es.getD p (0,.none)).2)=es.toList.map (·.2):=by
  apply List.ext_getElem
  ·simp
  ·intro i h1 h2;have hi:i<es.size:=by simpa using h1
   simp[Array.getD,hi]
 rw[e]
theorem Gr{a:Addr}{es:Array (Int×Value)}{ep:Nat}{t:SetTable}{Q:Value->Shared->Prop}(T:bg prog w s.heap a es ep t)
  (q:∀(I:Addr) (h':Heap) (d:Drawn),Laid prog w s.heap a es I h'->Q (.ref I) { s with heap:=h',drawn:=d }):wpAny (model prog w) A (pyIter (.ref a)) Q E s:=by
 have hT:s.TypeIs (.ref a) "set":=⟨_,T.at_,rfl⟩
 have dg:a<s.heap.objs.size:=aj T.at_;refine wpAny_pyIter_slot hT PySem.F.slot_set_iter (wpAny_call_entry PySem.F.slot_set_iter hT Gs ?_ (PySem.F.args_set_iter_1 _));show wpAny _ _ (Builtin.Frozenset.sizeOf a >>= _) _ _ s;unfold Builtin.Frozenset.sizeOf;refine aa (aa (wY T (ab ?_)));unfold setDrawn;refine aa (aa (aS T.at_ rfl T.fits ?_));dsimp only;unfold setsByText;refine aa (aa (wpAny_askSetting (ab ?_)));refine ab ?_;have here:∀(first:Value) (s1:Shared) (Q1:Fin->Shared->Prop) (T1:bg prog w s1.heap a es ep t),(∀o,o=l6 first 0 a es.size ep->Q1 (.done (.ret (.ref s1.heap.objs.size))) { s1 with heap:=s1.heap.push o })->wpAny (model prog w) A.in1 (do
   let e <-setEpoch a
   let v <-newFields "set_iterator" [first,rawInt 0,Value.ref a,rawInt es.size,rawInt e]
   ret v) Q1 E s1:=by
  intro first s1 Q1 T1 q1;refine aa (wpAny_setEpoch_of T1.at_ rfl T1.fits ?_);refine aa (wpAny_newObj_type (ab (q1 _ rfl)) (by size_fits))
 refine wpAny_ite_split (fun hc=>?_) fun hc=>?_
 ·refine aa (wG es.size _ _ _ (by simp) fun ps d hp=>?_);have uU:ps.length<=sizeLine:=by rw[hp.length_eq,List.length_range];exact fits_of_scanBound T.small
  refine aa (wpAny_newTuple ?_ (by rw[af];exact uU));have T1:bg prog w (s.heap.push { cls:=.type "tuple",data:=.seq (ps.map fun(p:Nat)=>rawInt p).toArray }) a es ep t:=T.kept fun o e=>ae _ e
  refine here _ _ _ T1 fun o ho=>?_
  subst ho;refine⟨_,rfl,"set_iterator",_,⟨_,ao _ rfl,rfl⟩,dG.lookup,?_⟩;have d0:(s.heap.push { cls:=.type "tuple",data:=.seq (ps.map fun(p:Nat)=>rawInt p).toArray }).objs.size=s.heap.objs.size+1:=Heap.size_push ..
  refine q _ _ d ⟨⟨[_,s.heap.objs.size,a],_,_,GG hp,fun A hh=>Il (t:=t) (by rw[d0];exact az (Nat.lt_succ_of_lt dg)) (by rw[d0];exact az (Nat.lt_succ_self _)) hp hh,
   ⟨ao _ rfl,T1.kept fun o e=>ae _ e,ae _ (ao _ rfl)⟩,fun b hb=>?_⟩,fun b o e=>ae _ (ae _ e),by rw[d0];exact Nat.le_succ _,⟨_,ao _ rfl,rfl⟩⟩
  simp only[ai,aB,or_false] at hb;rcases hb with rfl | rfl | rfl
  ·right;rw[d0];exact Nat.le_succ _
  ·right;exact aq _
  ·left;rfl
 ·refine aa (ab ?_);refine here _ _ _ T fun o ho=>?_
  subst ho;refine⟨_,rfl,"set_iterator",_,⟨_,ao _ rfl,rfl⟩,dG.lookup,?_⟩;have CC:∀b∈[s.heap.objs.size,a],b=a\/s.heap.objs.size<=b:=fun b hb=>by
   simp only[ai,aB,or_false] at hb;rcases hb with rfl | rfl
   ·right;exact aq _
   ·left;rfl
  have cH:a≠s.heap.objs.size:=az dg;have T1:bg prog w (s.heap.push (l6 (rawInt 0) 0 a es.size ep)) a es ep t:=T.kept fun o e=>ae _ e
  cases hf:w.params.followText "set-order" with
  | true=>
   exact q _ _ s.drawn ⟨⟨_,_,_,(zev (w.params.setOrder a ep) es).map _,fun A hh=>GH (t:=t) cH hf hh,⟨ao _ rfl,T1⟩,CC⟩,fun b o e=>ae _ e,aq _,⟨_,ao _ rfl,rfl⟩⟩
  | false=>
   have yI:¬((!t.plain&&decide (es.size>1))=true):=fun z=>hc (by
    show(!(w.params.followText "set-order")&&(!t.plain&&decide (es.size>1)))=true;rw[hf,z];rfl)
   have h1:es.size<=1:=by
    rcases T.marks.plain with h | h
    ·omega
    ·rw[h] at yI;simp at yI;exact yI
   exact q _ _ s.drawn ⟨⟨_,_,_,.refl _,fun A hh=>Im (t:=t) cH hf h1 hh,⟨0,ao _ rfl,T1,fun _=>rfl,fun z=>by omega⟩,CC⟩,fun b o e=>ae _ e,aq _,⟨_,ao _ rfl,rfl⟩⟩
theorem Gq{a:Addr}{Q:Bool->Shared->Prop}(hT:s.TypeIs (.ref a) "set")(h:Q false s):wpAny (model prog w) A (Builtin.List.listLengthHint (.ref a)) Q E s:=by
 unfold Builtin.List.listLengthHint;refine aa (wpAny_specialOf hT PySem.F.slot_set_len.lookup ?_);generalize Cd:("set.__len__":String)=KY;wp_delta
 rw[show splitId KY=some ("set","__len__") from by subst Cd;decide +kernel];subst Cd;refine aa (wpAny_isInstance (T:="set") (b:=true) hT (by rw[isSubtype_type];kernel_rfl) ?_);refine wpAny_ite_split (fun iK=>absurd iK (by decide)) (fun _=>wpAny_ite_split (fun _=>?_) (fun iK=>absurd (by decide +kernel) iK));exact aa (wpAny_typeOf hT (ab h))
theorem Ik{R:Result->Shared->Prop}{a:Addr}{es:Array (Int×Value)}{ep:Nat}{t:SetTable}(T:bg prog w s.heap a es ep t)(hh:A.handled=none)(S:Addr)(Cw:S≠a)(res:Value)(c0:Nat)(hS:s.heap.get? S=some { cls:=.type "list",data:=.seq #[] c0 })
  (hR:∀h' d tk (acc:Array Value) c',(∀b o,b≠S->s.heap.get? b=some o->h'.get? b=some o)->h'.get? S=some { cls:=.type "list",dict:=none,data:=.seq acc c',slots:=#[] }->acc.toList.Perm (es.toList.map (·.2))->R (.ok (.ret res)) { s with heap:=h',drawn:=d,toks:=tk }) :
  wpAny (model prog w) A.in1 (Builtin.List.listExtendWith (.ref S) (.ref a) res) (fun fin s'=>match fin with | .done f=>R (.ok f) s' | .again c'=>c'.quiet=true/\codeAny (model prog w) A c' R s') (fun e s'=>R (.error e) s') s:=by
 have hT:s.TypeIs (.ref a) "set":=⟨_,T.at_,rfl⟩
 have Cv:S<s.heap.objs.size:=aj hS;unfold Builtin.List.listExtendWith;refine aa (wpAny_typeOf (T:="set") hT ?_);have h1:Builtin.List.listSameRef (.ref S) (.ref a)=false:=by simp[Builtin.List.listSameRef,Cw]
 have h2:(Value.type "set"==Value.type "list")=false:=by decide
 have h3:(Value.type "set"==Value.type "tuple")=false:=by decide
 simp only[h1,h2,h3,Bool.or_false,ay,aU];refine aa (Gr T fun I h0 d L=>?_);obtain⟨fp,vals,St,hv,W,st,Ls⟩:=L.ex;have kU:S∉fp:=fun z=>by
  rcases Ls S z with e | e
  ·exact Cw e
  ·exact Nat.lt_irrefl _ (aE Cv e)
 have Mz:S≠I:=fun z=>Nat.lt_irrefl _ (aE Cv (z▸L.new))
 have go:∀(h:Heap) (c1 tk:Nat),St 0 h->(∀b o,b≠S->s.heap.get? b=some o->h.get? b=some o)->h.get? S=some { cls:=.type "list",data:=.seq #[] c1 }->
   codeAny (model prog w) A (.builtin "list.extend.loop" ⟨[.ref S,.ref I,res],[]⟩) R { s with heap:=h,drawn:=d,toks:=tk }:=by
  intro h c1 tk gJ hk yL;refine codeAny_extend_loopS (W A.in1 hh).toS (fits_of_scanBound T.small) S kU res es.size 0 _ #[] c1 rfl (Nat.zero_le _) gJ yL (ItemsOf.nil _) fun s' gb c' hm nt f6=>?_
  rw[Moved.eq_with hm];refine hR s'.heap d s'.toks gb c' (fun b o hb e=>hm.heap b o (fun i5=>?_) (hk b o hb e)) nt ?_
  ·rcases ai.mp i5 with e' | i5
   ·exact hb e'
   ·exact absurd (aj e) (by rw[aD.mp i5];exact Nat.not_lt.mpr L.new)
  ·have e:gb.toList=vals:=by
    apply List.ext_getElem?;intro j;by_cases hj:j<gb.size
    ·have:=f6.2 j gb[j] (by simp[hj]);rw[this];simp[hj]
    ·have B1:vals.length=es.size:=by rw[hv.length_eq];simp
     have:=f6.1;rw[List.getElem?_eq_none (by simp;omega),List.getElem?_eq_none (by omega)]
   rw[e];exact hv
 have yM:=L.old _ _ hS;refine aa (aQ (Gq (s:={ s with heap:=h0,drawn:=d }) ⟨_,L.old _ _ T.at_,rfl⟩ ?_));refine wpAny_ite_split (fun _=>?_) (fun _=>ab ⟨plainId_quiet PySem.F.plain_extend_loop _,go _ c0 _ st (fun b o _ e=>L.old b o e) yM⟩);refine aa (wpAny_rule (aa ?_));show wpAny _ _ (updateSeq S (·.push .none) >>= fun _=>updateSeq S (·.pop)) _ _ _;refine aa (wpAny_updateSeq yM rfl ?_);have Cy:=Heap.get?_update_self (Obj.mapSeq (·.push Value.none)) yM rfl;refine wpAny_updateSeq (hz:=by seq_fits) Cy rfl ?_;have LG:=Heap.get?_update_self (Obj.mapSeq (·.pop)) Cy rfl;refine ab ⟨plainId_quiet PySem.F.plain_extend_loop _,go _ _ _ ?_ (fun b o hb e=>?_) LG⟩
 ·refine(W A.in1 hh).frame 0 _ _ st fun b hb o e=>?_
  have Cr:b≠S:=fun h=>kU (h▸hb)
  exact(Heap.get?_update_other _ _ (Ne.symm Cr)).trans ((Heap.get?_update_other _ _ (Ne.symm Cr)).trans e)
 ·exact(Heap.get?_update_other _ _ (Ne.symm hb)).trans ((Heap.get?_update_other _ _ (Ne.symm hb)).trans (L.old _ _ e))
end
end L2
namespace L2
open PySem PySem.Spec PyProof.Rows
section
variable {prog:Program} {w:World} {A:Around} {E:Value->Shared->Prop} {s:Shared}
theorem IU{R:List Value->Shared->Prop}{a:Addr}{es:Array (Int×Value)}{ep:Nat}{t:SetTable}(T:bg prog w s.heap a es ep t)(hh:A.handled=none)
  (h:∀(h':Heap) (d:Drawn) (tk:Nat) (vs:List Value),s.heap.objs.size<h'.objs.size->(∀b o,s.heap.get? b=some o->h'.get? b=some o)->vs.Perm (es.toList.map (·.2))->R vs { s with heap:=h',drawn:=d,toks:=tk }):wpAny (model prog w) A (collect (.ref a)) R E s:=by
 have dg:a<s.heap.objs.size:=aj T.at_;unfold collect;refine aa (wpAny_runValue (codeAny_builtin entry_proto_collect' ?_));rw[Around.under_plainId PySem.F.plain_proto_collect _];show wpAny _ A.in1 (newList [] >>= fun l=>again (.builtin "list.__iadd__" ⟨[l,.ref a],[]⟩)) _ _ s;refine aa (wpAny_newObj_type (ab ⟨plainId_quiet PySem.F.plain_list_iadd _,codeAny_builtin entry_list_iadd' ?_⟩));rw[Around.under_plainId PySem.F.plain_list_iadd _];have yL:(s.heap.push { cls:=.type "list",data:=.seq ([]:List Value).toArray }).get? s.heap.objs.size=some { cls:=.type "list",data:=.seq #[] }:=ao _ rfl;show wpAny _ A.in1 (Builtin.List.listExtendWith (.ref s.heap.objs.size) (.ref a) (.ref s.heap.objs.size)) _ _ _;have key:=Ik (A:=A) (s:={ s with heap:=s.heap.push { cls:=.type "list",data:=.seq ([]:List Value).toArray } })
  (R:=fun(q:Result) (s':Shared)=>∃(h':Heap) (d:Drawn) (tk:Nat) (acc:Array Value) (c':Nat),q=.ok (.ret (.ref s.heap.objs.size))/\s'={ s with heap:=h',drawn:=d,toks:=tk }/\
   (∀b o,s.heap.get? b=some o->h'.get? b=some o)/\h'.get? s.heap.objs.size=some { cls:=.type "list",dict:=none,data:=.seq acc c',slots:=#[] }/\acc.toList.Perm (es.toList.map (·.2)))
  (T.kept fun o e=>ae _ e) hh s.heap.objs.size (Nat.ne_of_gt dg) (.ref s.heap.objs.size) 0 yL
  (fun h' d tk acc c' hk nt f6=>⟨h',d,tk,acc,c',rfl,rfl,fun b o e=>hk b o (az (aj e)) (ae _ e),nt,f6⟩)
 refine wpAny_mono key (fun fin s' x=>?_) fun e s' x=>?_
 ·cases fin with
  | done f=>
   obtain⟨h',d,tk,acc,c',e,rfl,hk,nt,f6⟩:=x;cases e;show wpAny _ A (load s.heap.objs.size >>= _) _ _ _;exact aa (wpAny_load nt (ab (h h' d tk acc.toList (aj nt) hk f6)))
  | again c1=>
   refine⟨x.1,codeAny_mono x.2 fun q s2 y=>?_⟩;obtain⟨h',d,tk,acc,c',rfl,rfl,hk,nt,f6⟩:=y;show wpAny _ A (load s.heap.objs.size >>= _) _ _ _;exact aa (wpAny_load nt (ab (h h' d tk acc.toList (aj nt) hk f6)))
 ·obtain⟨_,_,_,_,_,e',_⟩:=x;cases e'
theorem Bj:∀{vs:List Value},(∀v∈vs,∃x t,v=.str x t)->StrsAre vs (vs.map strOf)
 | [],_=>.nil
 | v::r,h=>by
  obtain⟨x,t,rfl⟩:=h v (by simp);exact .cons x t (Bj fun u hu=>h u (by simp[hu]))
theorem Bl{a:Addr}{es:Array (Int×Value)}{ep:Nat}{t:SetTable}{Q:Value->Shared->Prop}(T:bg prog w s.heap a es ep t)(hh:A.handled=none)(u7:es.size<64)
  (h:∀(p:Addr) (h':Heap) (d:Drawn) (tk:Nat) (out:Array Value) (e:Nat) (ss:List Str),s.heap.objs.size<=p->(∀b o,s.heap.get? b=some o->h'.get? b=some o)->h'.get? p=some (seqObj "list" out e)->StrsAre out.toList ss->ss.Perm (keysOf es)->sortedS ss=true->Q (.ref p) { s with heap:=h',drawn:=d,toks:=tk }) :
  wpAny (model prog w) A (call (.builtin "sorted") [.ref a]) Q E s:=by
 refine Calls.call_function_entry kind_sorted plain_sorted entry_sorted (args_sorted1 _) ?_;unfold Builtin.«sorted»;refine aa (m:=checkCount "sorted" 1 1 _) (ab (aa (IU (A:=A.in1) T hh fun h' d tk vs dg hk hp=>?_)));have B1:vs.length=es.size:=by rw[hp.length_eq];simp
 have K7:∀v∈vs,∃x t,v=.str x t:=fun v hv=>by
  obtain⟨e,he,rfl⟩:=aF.mp (hp.mem_iff.mp hv);obtain⟨⟨k,hk,_⟩,_⟩:=T.el e he;obtain⟨t,ht⟩:=Value.isStrOf_shape hk;exact⟨k,t,ht⟩
 have hS:=Bj K7;refine aa (wpAny_newList ?_ (by rw[B1];exact fits_of_scanBound T.small));have sP:(h'.push (seqObj "list" vs.toArray 0)).get? h'.objs.size=some (seqObj "list" vs.toArray 0):=ao _ rfl;refine aa (aQ (wpAny_call_entry slot_list_sort ⟨_,sP,rfl⟩ entry_list_sort (list_sort_treeK (s:={ s with heap:=h'.push (seqObj "list" vs.toArray 0),drawn:=d,toks:=tk }) strKind_oneLt sP hS.keysOf (fun v1 v2 eU e=>keyKind_strs (by rw[<-e];exact hS)) (by omega) fun iW a1 a2=>⟨_,rfl,?_⟩) (args_list_sort _)));obtain⟨gq,b1,b2,b3⟩:=sorted_out_str hS a1 a2;obtain⟨en,Lw⟩:=sortedHeap_at (out:=(arrOf iW).map (·.2)) sP;have hle:s.heap.objs.size<=h'.objs.size:=Nat.le_of_lt dg;refine ab ⟨_,rfl,h _ _ d tk _ en gq hle (fun b o e=>?_) Lw b1 (b2.trans ?_) b3⟩
 ·have e1:=hk b o e;have hb:b<h'.objs.size:=aj e1;rw[sortedHeap_old (az hb) (by rw[size_push'];exact Nat.lt_succ_of_lt hb)];exact ae _ e1
 ·have:=hp.map strOf;rw[List.map_map] at this;exact this
theorem Inv.draw{X:Cx}{pins:List (Addr×Obj)}{σ:St}{H:Hp}{s:Shared}(I:Inv X pins σ H s)(d:Drawn):Inv X pins σ H { s with drawn:=d }:=
 ⟨I.ok,I.os,I.bare,I.base,I.loc,I.cell,I.free,I.eD,I.pin,I.bX,I.len⟩
end
section
variable {X:Cx} {pos:Pos} {e:Expr} {te:TD} {ts:fU} {t:TA}
def Gp(K:PySem.W.Frag)(t:TA):TE:=fun σ H Q=>t σ H fun vs H1=>∃(p:Addr) (ss:List Str),vs=[.ref p]/\cN K H1 p (ss.map V.str)/\ss.length<4000/\(∀l:List Str,l.Nodup->(∀x∈l,x∈ss)->l.length<64)/\
 ∀l:List Str,l.Nodup->(∀x,x∈l↔x∈ss)->sortedS l=true->∀q,H1 q=none->Q (.ref q) (upd H1 q (.lst (l.map V.str)))
theorem HG{p1 p2 c7:Pos}(hc:X.calm=true)(kB:X.mg "sorted"=none)(gV:X.mg "set"=none)(ha:PA X [e] t)(nq:Gl X "sorted":=by rfl)(kR:Gl X "set":=by rfl)
  (he:starEach [e] X.env=(false,eval e X.env)::starEach [] X.env:=by rfl) (kS:starEach [.Call (.Name "set" p2) [e] [] c7] X.env=(false,eval (.Call (.Name "set" p2) [e] [] c7) X.env)::starEach [] X.env:=by rfl) :
  PE X (.Call (.Name "sorted" p1) [.Call (.Name "set" p2) [e] [] c7] [] pos) (Gp X.K t):=by
 intro pins s σ H Q I h;refine wpAny_Call_Name_kw (k9 I nq kB boot_sorted ?_ (by decide) (by decide));refine PyProof.Rows.callWith_builtin1 ?_ kS rfl;rw[kS];show wpAny _ _ (spliced ((false,eval (.Call (.Name "set" p2) [e] [] c7) X.env)::backTo pos (starEach [] X.env))) _ _ s;refine Calls.spliced_cons ?_;refine wpAny_Call_Name_kw (k9 I kR gV uz ?_ (by decide) (by decide));refine PyProof.Rows.callWith_type1 (cf (ha c7 pins s σ H _ I h) fun us s1 bG=>?_) he rfl;obtain⟨vs,H1,I1,r1,q1⟩:=bG;obtain⟨p,ss,rfl,hq,hn,u7,q⟩:=q1;obtain⟨u,rfl,ru⟩:=ie r1;cases ru;obtain⟨its,rv,pl,hz⟩:=I1.list hq;have hS:=Bp rv;refine GI (I1.ok.hd hc) pl.isList hS (by have:scanBound=4096:=rfl;omega) fun h1 nU es ep tb T Hd yz=>?_
 have I2:Inv X pins σ H1 { s1 with heap:=h1,toks:=nU }:=I1.kept fun b o e=>yz b o (aj e) e
 refine Calls.spliced_nil ?_;have d0:es.size<64:=by
  have:=u7 (keysOf es) Hd.nd fun x hx=>(Hd.mem x).mp hx
  simpa[keysOf] using this
 refine Bl (s:={ s1 with heap:=h1,toks:=nU }) T (I1.ok.hd hc) d0 fun pp h2 d Ke out en r0 hp sV o9 ye mr sN=>?_
 have qj:r0.Nodup:=mr.nodup_iff.mpr Hd.nd;have uY:r0.length<64:=by rw[mr.length_eq];simpa[keysOf] using d0
 have hf:H1 pp=none:=I2.bX.fresh hp;refine⟨.ref pp,upd H1 pp (.lst (r0.map V.str)),?_,rfl,q r0 qj (fun x=>by rw[mr.mem_iff];exact Hd.mem x) sN pp hf⟩;have I3:=Inv.laid (t':=Ke) (Inv.draw I2 d) (h':=h2) (a:=pp) (o:=.lst (r0.map V.str)) sV hp ?_
 ·exact I3
 ·refine⟨by rw[af];have:=ur;omega,out.toList,en,uA ye,?_⟩;rw[Array.toArray_toList];exact o9
theorem IP{p1 p2 c7:Pos}(hc:X.calm=true)(kB:X.mg "sorted"=none)(gV:X.mg "set"=none)(ha:iN X [e] ts)(nq:Gl X "sorted":=by rfl)(kR:Gl X "set":=by rfl)
  (he:starEach [e] X.env=(false,eval e X.env)::starEach [] X.env:=by rfl) (kS:starEach [.Call (.Name "set" p2) [e] [] c7] X.env=(false,eval (.Call (.Name "set" p2) [e] [] c7) X.env)::starEach [] X.env:=by rfl) :
  PD X (.Call (.Name "sorted" p1) [.Call (.Name "set" p2) [e] [] c7] [] pos) (cM uF ts):=by
 obtain⟨t,pp,q⟩:=ha;refine⟨_,HG hc kB gV pp nq kR he kS,fun ρ σ G0 H0 G H Q P E h k=>q ρ σ G0 H0 G H _ _ E h fun vs H' ds G' x rs hq=>?_⟩;unfold uF at hq;split at hq
 ·split at hq
  ·rename_i es ss hs;obtain⟨v,rfl,rv⟩:=gN rs;simp only[Rep] at rv;obtain⟨a,xs,rfl,h1,h2⟩:=rv;rw[wZ hs] at h2;rw[wm h2] at h1;refine⟨a,ss,rfl,(x.s.c9 h1).sq,hq.1,hq.2.1,fun l nd hm so=>?_⟩;exact nQ x.s (wJ l) (hq.2.2 l nd hm so) fun v H2 r G2 x2 rr qq=>k v H2 r G2 (x.trans x2) (rr.dz x.h) qq
  ·exact hq.elim
 ·exact hq.elim
end
end L2
namespace L2
open PySem PySem.Spec PyProof.Rows
section
variable {X:Cx} {pos:Pos} {e i':Expr} {te ti:TD}
def tZ(i:Nat):TX:=fun D ρ=>match gt ρ i with
 | .ow _=>D.nx (ρ.set i (.ow []))
 | _=>False
theorem Gn(i:Nat){x:Str}{p1 p2 pos':Pos}(hN:X.N[i]?=some x:=by rfl)(hv:lT X.env.scope x:=by first | exact Or.inl rfl | exact Or.inr (Or.inl rfl) | exact Or.inr (Or.inr rfl))(hd:(x==("__debug__":Str))=false:=by decide)(fL:(x==("__classdict__":Str))=false:=by decide)
  (hb:∀{ta:TE},PE X (.Name x p1) ta->PE X (.Call (.Attribute (.Name x p1) "clear" p2) [] [] pos') (zd X.K "list" zR ta):=by intro ta h1;exact E8 PySem.F.plainAttrs_list PySem.F.slot_list_clear PySem.F.type_list_clear F2 h1) :
  PX X (.Expr (.Call (.Attribute (.Name x p1) "clear" p2) [] [] pos') pos) (tZ i):=by
 refine⟨_,vY (hb (nP hN hv hd fL)),fun ρ σ G0 H0 G H D E k h g=>?_⟩;unfold tZ at h;split at h
 ·rename_i ds hg;obtain⟨a,xs,h1,h2,h3,h4,h5⟩:=k.ow i ds hg;exact⟨_,h1,.inl ⟨rfl,xs,cN.of h2⟩,a,xs,rfl,rfl,h2,g.nx _ _ G _ (bw.refl _) (k.change hg h1 bc.nil) h⟩
 ·exact h.elim
def tL(i:Nat)(te:TD):TX:=fun D ρ=>match gt ρ i with
 | .ow ds=>te ρ fun r=>match r with
  | .ow es=>ds.length+es.length<=sizeLine/\D.nx (ρ.set i (.ow (ds++es)))
  | _=>False
 | _=>False
theorem DL(i:Nat){x:Str}{p1 p2 pos':Pos}(he:PD X e te)(hN:X.N[i]?=some x:=by rfl)(hv:lT X.env.scope x:=by first | exact Or.inl rfl | exact Or.inr (Or.inl rfl) | exact Or.inr (Or.inr rfl))(hd:(x==("__debug__":Str))=false:=by decide)(fL:(x==("__classdict__":Str))=false:=by decide)
  (gJ:starEach [e] X.env=(false,eval e X.env)::starEach [] X.env:=by rfl)
  (hb:∀{ta:TE} {t:TA},PE X (.Name x p1) ta->PA X [e] t->PE X (.Call (.Attribute (.Name x p1) "extend" p2) [e] [] pos') (xH X.K "list" Ar ta t):=by intro ta t h1 h2;exact vG PySem.F.plainAttrs_list PySem.F.slot_list_extend PySem.F.type_list_extend HQ h1 h2) :
  PX X (.Expr (.Call (.Attribute (.Name x p1) "extend" p2) [e] [] pos') pos) (tL i te):=by
 obtain⟨t,p,q⟩:=he;refine⟨_,vY (hb (nP hN hv hd fL) (mQ p nO gJ)),fun ρ σ G0 H0 G H D E k h g=>?_⟩;unfold tL at h;split at h
 ·rename_i ds hg;obtain⟨a,xs,h1,h2,h3,h4,h5⟩:=k.ow i ds hg;refine⟨_,h1,.inl ⟨rfl,xs,cN.of h2⟩,q ρ σ G0 H0 G H _ _ k h fun v H' r G' x1 rr hq=>?_⟩;split at hq
  ·rename_i es;obtain⟨b,zs,rfl,b1,b2,b3,b4⟩:=rr;have k2:=k.ext x1;refine⟨a,b,xs,zs,rfl,rfl,x1.h _ _ h2,b3,by rw[h5.length,b4.length];exact hq.1,?_⟩;exact g.nx _ _ G' _ x1.g (k2.change hg h1 ((h5.mono x1.g).append b4)) hq.2
  ·exact hq.elim
 ·exact h.elim
end
end L2
namespace L2
open PySem PySem.Spec PyProof.Rows
structure M2 (X:Cx) (o:Expr) (m:Str) (apos:Pos) (e f:Expr) (fG:Pos):Prop where
 base:attributeBase o m X.env (eval o X.env)=eval o X.env
 MB:((backTo fG (starEach [e,f] X.env)).all (fun x=>!x.1)&&(backToKw fG (keywordEach [] X.env)).all (fun x=>x.1.isSome)
  && decide (([e,f]:List Expr).length+([]:List Keyword).length+(if ([]:List Keyword).isEmpty then 0 else 1)<30))=true
 line:(apos.endLine==fG.line)=true
 trees:backTo fG (starEach [e,f] X.env)=[(false,eval e X.env),(false,eval f X.env)]
end L2
namespace PySem
open Sem (wp)
end PySem
namespace PySem
open Sem (wp)
end PySem
namespace PySem
open Sem (wp)
end PySem
namespace L2
open PySem PySem.Spec PyProof.Rows
end L2
namespace L2
open PySem PySem.Spec PyProof.Rows
end L2
namespace L2
open PySem PySem.Spec PyProof.Rows
end L2
namespace L2
open PySem PySem.Spec PyProof.Rows
end L2
namespace L2
open PySem PySem.Spec PyProof.Rows
end L2
namespace HT
open PySem PyProof.Rows
end HT
namespace L2
open PySem PySem.Spec PyProof.Rows
end L2
namespace HT
end HT
namespace L2
open PySem PySem.Spec PyProof.Rows
end L2
namespace L2
open PySem PySem.Spec PyProof.Rows
end L2
namespace L2
open PySem PySem.Spec PyProof.Rows
end L2
namespace Ts
open PySem PyProof.Rows
variable {M:Model} {A:Around} {E:Value->Shared->Prop} {s:Shared}
end Ts
namespace Ts
open PySem PyProof.Rows
variable {α:Type} (rk:α->Int)
variable {rk}
end Ts
namespace Ts
open PySem PyProof.Rows
variable {M:Model} {A:Around} {E:Value->Shared->Prop} {s:Shared}
def L6(rk:Keyed->Int)(l:List Keyed):Prop:=l.Pairwise fun x y=>rk x<=rk y
end Ts
namespace Ts
open PySem PyProof.Rows
end Ts
namespace Ts
open PySem PyProof.Rows
variable {M:Model} {A:Around} {E:Value->Shared->Prop} {s:Shared}
end Ts
namespace Ts
open PySem PyProof.Rows
variable {M:Model} {A:Around} {E:Value->Shared->Prop} {s:Shared}
end Ts
namespace Ts
open PySem PyProof.Rows
variable {M:Model} {A:Around} {E:Value->Shared->Prop} {s:Shared}
end Ts
namespace Ts
open PySem PyProof.Rows
variable {M:Model} {A:Around} {E:Value->Shared->Prop} {s:Shared}
end Ts
namespace Ts
open PySem PyProof.Rows
variable {M:Model} {A:Around} {E:Value->Shared->Prop} {s:Shared}
end Ts
namespace Ts
open PySem PyProof.Rows
variable {M:Model} {A:Around} {E:Value->Shared->Prop} {s:Shared}
end Ts
namespace Ts
open PySem PySem.W PyProof.Rows
section
variable {n N:Nat} {r:Nat->Int} {cmp:Nat->Nat->(Bool->Shared->Prop)->Shared->Prop} {s:Shared} {p:Array Nat} {i j k m:Nat}
noncomputable def kp(r:Nat->Int)(p:Array Nat)(i:Nat):Int:=r (p.getD i 0)
def Pm(n:Nat)(p:Array Nat):Prop:=p.toList.Perm (List.range n)
def Up(r:Nat->Int)(p:Array Nat)(m:Nat):Prop:=∀i j,i<=j->j<m->kp r p i<=kp r p j
section
variable {G:Nat×Array Nat->Shared->Prop} (g:∀m p,Pm n p->1<=m->m<=N->Up r p m->G (m,p) s)
include g
end
end
end Ts
namespace Ts
open PySem PyProof.Rows
section
variable {prog:Program} {w:World} {A:Around} {E:Value->Shared->Prop} {s:Shared}
theorem Mf{rk:Keyed->Int}{l:List Keyed}(h:l.length<2):L6 rk l:=by
 cases l with
 | nil=>exact .nil
 | cons a r=>
  cases r with
  | nil=>exact List.pairwise_singleton _ _
  | cons b t=>
   simp only[aw] at h;omega
end
end Ts
namespace HT
end HT
namespace Ts
open PySem PySem.W PyProof.Rows
end Ts
namespace Ts
open PySem PySem.W PyProof.Rows
end Ts
namespace L2
open PySem PySem.Spec PyProof.Rows
end L2
namespace L2
open PySem PySem.Spec PyProof.Rows
end L2
namespace L2
open PySem PySem.Spec PyProof.Rows
end L2
namespace L2
open PySem PySem.Spec PyProof.Rows
end L2
namespace PySem
open Sem (wp)
end PySem
namespace PySem
open Sem (wp)
end PySem
namespace L2
open PySem PySem.Spec PyProof.Rows
end L2
namespace L2
open PySem PySem.Spec PyProof.Rows
end L2
namespace L2
open PySem PySem.Spec PyProof.Rows
end L2
namespace PySem
open Sem (wp)
end PySem
namespace L2
open PySem PySem.Spec PyProof.Rows
end L2
namespace L2
open PySem PySem.Spec PyProof.Rows
end L2
namespace PySem
open Sem (wp)
end PySem
namespace L2
open PySem PySem.Spec PyProof.Rows
end L2
namespace L2
open PySem
end L2
namespace L2
namespace SI
open PySem PySem.Spec PyProof.Rows
end SI
end L2
namespace L2
open PySem PySem.Spec PyProof.Rows
namespace SI
end SI
end L2
namespace L2
open PySem PySem.Spec PyProof.Rows
section
variable {P:Program} {w:World} {K:PySem.W.Frag} {mg:Str->Option Value} {base:Heap}
structure vp (K:PySem.W.Frag) (mg:Str->Option Value) (x:Str) (st:Stmt) (ds:List Value):Prop where
 ex:∃(T f:Addr) (fd:FuncData) (o:Obj) (n:Nat),iy (.ref T) K x x st f fd/\mg x=some (.ref f)/\K.lookup T=some o/\o.data=.seq ds.toArray n
theorem pv{h:Heap}{x:Str}{st:Stmt}{f T:Addr}{oc tc:Value}{od an td:Option Addr}{js Kc:Array (Option Value)}{kV doc pm bM ct:Value}{ds:List Value}{n:Nat}(X:K.In h)(G:h.Ns mainGlobals mg)(a:PySem.W.nsIn K mainGlobals x=some (some (.ref f)))
  (l:K.lookup f=some ⟨oc,od,.func (PySem.W.fnOf x x (cD st) (bN st) (bf st) (.ref T) kV doc pm an bM ct),js⟩) (c:PySem.W.codeIn K bM x=true) (k:PySem.W.keepIn K (.ref f)=true) (t:K.lookup T=some ⟨tc,td,.seq ds.toArray n,Kc⟩):vp K mg x st ds:=
 ⟨T,f,_,_,n,vT l c k,PySem.W.mg_of X G a,t,rfl⟩
theorem iy.lR{x qual:Str}{st:Stmt}{f T:Addr}{fd:FuncData}{ps:List Str}{o:Obj}{ds es:List Value}{n:Nat}(F:iy (.ref T) K x qual st f fd)(m:Nat)(lk:K.lookup T=some o)(hd:o.data=.seq ds.toArray n)
  (h:∀(kV doc pm:Value) (an:Option Addr) (bM ct:Value) (us:List Value),us.length=m->∃k:Option (Array Value)->Sem (List (Str×Value)),bindArgs (PySem.W.fnOf x qual (cD st) (bN st) (bf st) (.ref T) kV doc pm an bM ct) ⟨us,[]⟩=seqItems? (.ref T) >>= k/\k (some ds.toArray)=pure (ps.zip (us++es))) (hm:ps.length=m+es.length:=by rfl):Binds K fd ps es:=by
 obtain⟨oc,od,kV,doc,pm,an,bM,ct,js,rfl,lf,fL⟩:=F.ex;intro s us qd hl;obtain⟨k,h1,h2⟩:=h kV doc pm an bM ct us (by rw[au,hm] at hl;omega);exact BindsTo.of_defaults rfl (qd _ _ lk) hd h1 h2
structure fM (P:Program) (w:World) (K:PySem.W.Frag) (mg:Str->Option Value) (base:Heap) (k:Nat) (x:Str) (n:Nat) (t:cI) (b:Bool):Prop where
 ex:∃(f:Addr) (fd:FuncData) (ps:List Str),eT P w K mg base iO k f fd ps (pz K n t)/\mg x=some (.ref f)/\PySem.W.keepIn K (.ref f)=true/\Binds K fd ps []/\Binds K fd ps [.bool b]
theorem fM.all{k:Nat}{x:Str}{n:Nat}{t:cI}{b:Bool}(C:fM P w K mg base k x n t b):Known P w K mg base k x n t:=by
 obtain⟨f,fd,ps,h1,h2,h3,h4,_⟩:=C.ex;exact⟨f,fd,ps,h1,h2,h3,h4⟩
end
section
variable {X:Cx} {k k' n:Nat} {t:cI} {x:Str} {p pos:Pos} {e:Expr} {es:List Expr} {ts:fU} {b:Bool}
def vK(n:Nat)(t:cI)(b:Bool)(ts:fU):TD:=fun ρ Q=>ts ρ fun ds=>(ds++[D.bl b]).length=n/\t (ds++[D.bl b]) Q
theorem GF(C:fM X.prog X.w X.K X.mg X.base k x n t b)(hr:cm k' X.A)(ha:iN X (e::es) ts)(hk:k<=k':=by decide)(hg:Gl X x:=by rfl)(il:(x==("__debug__":Str))=false:=by decide)
  (he:starEach (e::es) X.env=(false,eval e X.env)::starEach es X.env:=by rfl) (dA:(backTo pos (starEach es X.env)).any (·.1)=false:=by rfl):PD X (.Call (.Name x p) (e::es) [] pos) (vK n t b ts):=by
 obtain⟨f,fd,ps,F,hm,kp,_,hb⟩:=C.ex;obtain⟨tt,pp,q⟩:=ha;refine⟨_,Au F (hr.mono hk) hg hm kp hb (dvs:=[.bl b]) (.cons rfl .nil) vF pp il he dA,fun ρ σ G0 H0 G H Q P E h k=>q ρ σ G0 H0 G H _ _ E h fun vs H' ds G' x rs hq=>?_⟩;exact⟨G',ds++[D.bl b],Q,x.s,rs.append (bc.cons (by simp only[Rep]) bc.nil),hq.1,hq.2,fun v H2 r G2 x2 rr q2=>k v H2 r G2 (x.trans x2) (rr.dz x.h) q2⟩
end
end L2
namespace L2
open PySem PySem.Spec PyProof.Rows
section
variable {X:Cx} {p p' pos pos':Pos} {e:Expr} {ts:fU}
def ub(i:Nat):TD:=fun ρ Q=>match gt ρ i with
 | .ow ds=>Q (.ow ds)
 | _=>False
theorem Gm(i:Nat){x:Str}(hm:X.mg "list"=none)(hN:X.N[i]?=some x:=by rfl)(hv:lT X.env.scope x:=by first | exact Or.inl rfl | exact Or.inr (Or.inl rfl) | exact Or.inr (Or.inr rfl))(hg:Gl X "list":=by rfl)(hd:(x==("__debug__":Str))=false:=by decide)
  (fL:(x==("__classdict__":Str))=false:=by decide) (gJ:starEach [Expr.Name x p'] X.env=(false,eval (.Name x p') X.env)::starEach [] X.env:=by rfl):PD X (.Call (.Name "list" p) [.Name x p'] [] pos) (ub i):=by
 refine⟨_,wN BE hg hm boot_list (mQ (nP hN hv hd fL) nO gJ),fun ρ σ G0 H0 G H Q P E h k=>?_⟩;unfold ub at h;split at h
 ·rename_i ds hg;obtain⟨a,xs,h1,h2,h3,h4,h5⟩:=E.ow i ds hg;exact⟨_,h1,a,xs,rfl,.inl (cN.of h2),nQ E.e.s h5 h k⟩
 ·exact h.elim
end
section
variable {P:Program} {w:World} {K:PySem.W.Frag} {mg:Str->Option Value} {base:Heap}
theorem gI{x:Str}{st:Stmt}{N ps:List Str}{t:cI}{T:TX}{n d:Nat}(k:Nat)(A:At K mg x st)(S:br N ps (bf st))
  (body:∀(f:Addr) (bM:Value) (A:Around) (outer:List Env) (s:Shared) (H:Hp) (E:XK),cm k (A.deeper (envOfC x (bf st) s.heap.objs.size f bM))->j8 (kJ iO P w K mg base N x (bf st) f bM A outer s H E).mn (bN st) T)
  (spec:∀(ds:List D) (Qr:R->Prop),ds.length=n->t ds Qr->T { nx:=fun _=>Qr (.fz .non),rt:=Qr } (eW N ds))
  (b:∀(kV doc pm:Value) (an:Option Addr) (bM ct:Value) (us:List Value),us.length=n->bindArgs (PySem.W.fnOf x x (cD st) (bN st) (bf st) .none kV doc pm an bM ct) ⟨us,[]⟩=pure (ps.zip us)) (hn:ps.length=n:=by rfl) (hd:k+1=d:=by rfl):Known P w K mg base d x n t:=by
 subst hn hd;obtain⟨f,fd,F,hm⟩:=A.ex;exact⟨f,fd,ps,v7 F S (body f) spec,hm,F.kp,F.binds b⟩
end
end L2
namespace L2
open PySem PySem.Spec PyProof.Rows
end L2
namespace L2
open PySem PySem.Spec PyProof.Rows
end L2
namespace Ts
open PySem PySem.W PyProof.Rows
end Ts
namespace L2
open PySem PySem.Spec PyProof.Rows
end L2
namespace L2
open PySem PySem.Spec PyProof.Rows
end L2
namespace L2
open PySem PySem.Spec PyProof.Rows
theorem mH{α:Type}{l:List α}{n:Nat}(h:l.length=n+1):∃a r,l=a::r/\r.length=n:=by
 cases l with
 | nil=>cases h
 | cons a r=>exact⟨a,r,rfl,Nat.succ.inj h⟩
theorem Dv{α:Type}{l:List α}(h:l.length=0):l=[]:=List.eq_nil_of_length_eq_zero h
theorem zr{α:Type}{l:List α}(h:l.length=1):∃a0,l=[a0]:=by
 obtain⟨a,r,e,h⟩:=mH h;exact⟨a,by rw[e,Dv h]⟩
theorem zq{α:Type}{l:List α}(h:l.length=2):∃a0 a1,l=[a0,a1]:=by
 obtain⟨a,r,e,h⟩:=mH h;obtain⟨b0,e2⟩:=zr h;exact⟨a,b0,by rw[e,e2]⟩
theorem zp{α:Type}{l:List α}(h:l.length=3):∃a0 a1 a2,l=[a0,a1,a2]:=by
 obtain⟨a,r,e,h⟩:=mH h;obtain⟨b0,b1,e2⟩:=zq h;exact⟨a,b0,b1,by rw[e,e2]⟩
theorem zo{α:Type}{l:List α}(h:l.length=4):∃a0 a1 a2 a3,l=[a0,a1,a2,a3]:=by
 obtain⟨a,r,e,h⟩:=mH h;obtain⟨b0,b1,b2,e2⟩:=zp h;exact⟨a,b0,b1,b2,by rw[e,e2]⟩
theorem zm{α:Type}{l:List α}(h:l.length=5):∃a0 a1 a2 a3 a4,l=[a0,a1,a2,a3,a4]:=by
 obtain⟨a,r,e,h⟩:=mH h;obtain⟨b0,b1,b2,b3,e2⟩:=zo h;exact⟨a,b0,b1,b2,b3,by rw[e,e2]⟩
theorem zl{α:Type}{l:List α}(h:l.length=6):∃a0 a1 a2 a3 a4 a5,l=[a0,a1,a2,a3,a4,a5]:=by
 obtain⟨a,r,e,h⟩:=mH h;obtain⟨b0,b1,b2,b3,b4,e2⟩:=zm h;exact⟨a,b0,b1,b2,b3,b4,by rw[e,e2]⟩
theorem zk{α:Type}{l:List α}(h:l.length=7):∃a0 a1 a2 a3 a4 a5 a6,l=[a0,a1,a2,a3,a4,a5,a6]:=by
 obtain⟨a,r,e,h⟩:=mH h;obtain⟨b0,b1,b2,b3,b4,b5,e2⟩:=zl h;exact⟨a,b0,b1,b2,b3,b4,b5,by rw[e,e2]⟩
theorem zj{α:Type}{l:List α}(h:l.length=8):∃a0 a1 a2 a3 a4 a5 a6 a7,l=[a0,a1,a2,a3,a4,a5,a6,a7]:=by
 obtain⟨a,r,e,h⟩:=mH h;obtain⟨b0,b1,b2,b3,b4,b5,b6,e2⟩:=zk h;exact⟨a,b0,b1,b2,b3,b4,b5,b6,by rw[e,e2]⟩
theorem Me{α:Type}{l:List α}(h:l.length=9):∃a0 a1 a2 a3 a4 a5 a6 a7 a8,l=[a0,a1,a2,a3,a4,a5,a6,a7,a8]:=by
 obtain⟨a,r,e,h⟩:=mH h;obtain⟨b0,b1,b2,b3,b4,b5,b6,b7,e2⟩:=zj h;exact⟨a,b0,b1,b2,b3,b4,b5,b6,b7,by rw[e,e2]⟩
end L2
namespace L2
open PySem PySem.Spec PyProof.Rows PySem.Builtin PySem.Builtin.Str
end L2
namespace L2
open PySem PySem.Spec PyProof.Rows
end L2
namespace L2
open PySem PySem.Spec PyProof.Rows
noncomputable def fk:Option Str->Value->Bool
 | none,.none=>true
 | some x,.str y _=>y==x
 | _,_=>false
theorem jo{k:Option Str}{v:Value}(h:fk k v=true):(k=none/\v=.none)\/∃x t,k=some x/\v=.str x t:=by
 cases k with
 | none=>cases v<;>simp_all[fk]
 | some x=>cases v<;>simp_all[fk]
section
variable {prog:Program} {w:World} {A:Around} {E:Value->Shared->Prop} {s:Shared}
theorem GD{Q:Int->Shared->Prop}(h:Q 4238894112 { s with toks:=s.toks+1 }):wpAny (model prog w) A (pyHash .none) Q E s:=by
 have hT:s.TypeIs .none "NoneType":=rfl;unfold pyHash pyHashByItsType;have hv:[Value.none].any Value.onHeap=false:=rfl;refine aa ?_;rw[cRoomFor,if_neg (by rw[hv];exact aG)];refine ab ?_;refine aa (wpAny_specialOf hT F.slot_NoneType_hash.lookup ?_);show wpAny _ _ (if (some (Value.builtin "NoneType.__hash__")==some Value.none)=true then _ else _) Q E s;rw[if_neg (by rw[beq_builtin_none];exact aG)];refine aa (wpAny_specialOf hT F.slot_NoneType_hash.lookup ?_);show wpAny _ _ (callSpecialIfBoundUnlessNone? .none "__hash__" _ >>= _) Q E s;refine aa (wpAny_callSpecialIfBoundUnlessNone?_slot hT F.slot_NoneType_hash (wpAny_call_entry F.slot_NoneType_hash hT F.entry_NoneType_hash (show wpAny _ _ (do ret (<-mkInt 4238894112)) _ _ s from wpAny_ret_mkInt ?_) (F.args_NoneType_hash_1 _)));exact ab h
end
noncomputable def zv(w:World)(k:Option Str):Int:=k.elim 4238894112 fun x=>hashStr w x
theorem Du:∀v a b,fk a v=true->fk b v=true->a=b:=by
 intro v a b ha hb;rcases jo ha with⟨rfl,rfl⟩ | ⟨x,t,rfl,rfl⟩
 ·rcases jo hb with⟨rfl,h⟩ | ⟨y,u,rfl,h⟩
  ·rfl
  ·cases h
 ·rcases jo hb with⟨rfl,h⟩ | ⟨y,u,rfl,h⟩
  ·cases h
  ·injection h with h
   rw[h]
theorem L1:∀k v,fk k v=true->carriedByValue v=true:=by
 intro k v h;rcases jo h with⟨rfl,rfl⟩ | ⟨x,t,rfl,rfl⟩
 ·rfl
 ·rfl
section
variable {prog:Program} {w:World} {A:Around} {E:Value->Shared->Prop} {s:Shared}
theorem Ew{k:Option Str}{v:Value}{Q:Int->Shared->Prop}(hv:fk k v=true)(h:Q (zv w k) { s with toks:=s.toks+1 }):wpAny (model prog w) A (pyHash v) Q E s:=by
 rcases jo hv with⟨rfl,rfl⟩ | ⟨x,t,rfl,rfl⟩
 ·exact GD h
 ·exact wpAny_pyHash_str h
theorem DK{a b:Option Str}{u v:Value}{Q:Bool->Shared->Prop}(hu:fk a u=true)(hv:fk b v=true)(h:Q (decide (a=b)) s):wpAny (model prog w) A (eqBool u v) Q E s:=by
 rcases jo hu with⟨rfl,rfl⟩ | ⟨x,t,rfl,rfl⟩
 ·rcases jo hv with⟨rfl,rfl⟩ | ⟨y,u,rfl,rfl⟩
  ·exact SeqAt.EqAt.same _ _ _ _ _ (by simpa using h)
  ·exact SeqAt.EqAt.none_str _ _ _ _ _ _ (by simpa using h)
 ·rcases jo hv with⟨rfl,rfl⟩ | ⟨y,u,rfl,rfl⟩
  ·exact SeqAt.EqAt.str_none _ _ _ _ _ _ (by simpa using h)
  ·exact wpAny_eqBool_str (by simpa using h)
end
theorem Dt:∀k x t v,fk k (.str x t)=true->fk k v=v.isStr x:=by
 intro k x t v h;rcases jo h with⟨_,e⟩ | ⟨y,u,rfl,e⟩
 ·cases e
 ·injection e with e
  subst e;cases v<;>rfl
noncomputable def optKind(prog:Program)(w:World):KeyKind prog w (Option Str):=⟨fk,zv w,Du,L1,Ew,DK,Dt⟩
end L2
namespace L2.SO
open PySem PySem.Spec PyProof.Rows L2
noncomputable def l5:Value->Option Str
 | .str x _=>some x
 | _=>none
theorem pS{k:Option Str}{v:Value}(h:fk k v=true):l5 v=k:=by rcases jo h with⟨rfl,rfl⟩ | ⟨x,t,rfl,rfl⟩<;>rfl
theorem IM(t:SetTable)(es:Array (Int×Value))(h:Int)(x:Value):(layNew t es h x).2.1.plain=true->t.plain=true:=by
 unfold layNew;split
 ·rename_i slot wd hf;show((t.put slot).1.orStandIn (SetTable.insertAt es (t.put slot).2 (h,x)).size).plain=true->_;unfold SetTable.orStandIn;split
  ·exact fun z=>z
  ·intro z;exact absurd (show false=true from z) (by simp)
 ·intro z;exact absurd (show false=true from z) (by simp)
theorem IL(t:SetTable)(es:Array (Int×Value))(wanted:Nat):(relayAll t es wanted).2.1.led=t.led:=by
 unfold relayAll;split
 ·rename_i t' order hr;obtain⟨h1,h2⟩:=BD hr;dsimp only;split
  ·exact h1
  ·rfl
 ·rfl
section
variable {prog:Program} {w:World} {A:Around} {E:Value->Shared->Prop} {s:Shared}
structure lV (w:World) (es:Array (Int×Value)) (t:SetTable):Prop where
 led:t.led=!(w.params.followText "set-order")
 plain:t.plain=false\/∀e∈es.toList,e.2=.none
structure bg (prog:Program) (w:World) (h:Heap) (a:Addr) (es:Array (Int×Value)) (ep:Nat) (t:SetTable):Prop where
 at_:h.get? a=some { cls:=.type "set",dict:=none,data:=.set es ep t,slots:=#[] }
 el:ElemsOf (optKind prog w) es.toList
 small:es.size<scanBound
 fits:t.fits es.size=true
 marks:lV w es t
def Mem(prog:Program)(w:World)(es:Array (Int×Value))(k:Option Str):Prop:=∃e∈es.toList,(optKind prog w).is k e.2=true
theorem gr{a:Addr}{es:Array (Int×Value)}{ep:Nat}{t:SetTable}{x:Option Str}{v:Value}{Q:Bool->Shared->Prop}(eS:fk x v=true)(S:bg prog w s.heap a es ep t)(room:es.size+1<scanBound)
  (h:∀h' bJ eE t',Heap.SameBut a s.heap h'->bg prog w h' a bJ eE t'->((bJ=es/\Mem prog w es x)\/(¬Mem prog w es x/\List.Perm bJ.toList (es.toList++[((optKind prog w).hash x,v)])))->∀b,Q b { s with heap:=h' }) :
  wpAny (model prog w) A (setAddHashed a v ((optKind prog w).hash x)) Q E s:=by
 have lD:v.scannable=true:=by rcases jo eS with⟨_,rfl⟩ | ⟨_,_,_,rfl⟩<;>rfl
 have eS:(optKind prog w).is x v=true:=eS;have ho:=S.at_;unfold setAddHashed setAddHashedIn;refine aQ (aa (aS ho rfl S.fits ?_));dsimp only;rw[byScan_of lD S.small S.el];simp only[↓reduceIte];unfold setAddByScan;refine aa (aa (wpAny_rule (aa (wpAny_setScan_of eS ho rfl S.fits S.el ?_))));cases hr:List.findIdx? (fun e=>(optKind prog w).is x e.2) es.toList with
 | some j=>
  dsimp only;obtain⟨hj,yk,_⟩:=List.findIdx?_eq_some_iff_getElem.mp hr;refine ab (ab ?_);exact h s.heap es ep t (Heap.SameBut.refl a s.heap) S (.inl ⟨rfl,es.toList[j],List.getElem_mem hj,yk⟩) _
 | none=>
  dsimp only;have ni:¬Mem prog w es x:=fun⟨e,he,hp⟩=>by
   have:=List.findIdx?_eq_none_iff.mp hr e he;rw[hp] at this;cases this
  have way:∀(b:Bool) {s1:Shared} {Q':Unit->Shared->Prop},Q' () s1->wpAny (model prog w) A (match b with | true=>rule "set.scan.the-table-gave-way" | false=>pure ()) Q' E s1:=fun b s1 Q' q=>by
   cases b
   ·exact ab q
   ·exact wpAny_rule q
  have ck:=layNew_perm t es ((optKind prog w).hash x) v;have fc:=layNew_fits t es ((optKind prog w).hash x) v;have fK:=Bn t es ((optKind prog w).hash x) v;have o3:=IM t es ((optKind prog w).hash x) v;generalize layNew t es ((optKind prog w).hash x) v=L at ck fc fK o3 ⊢;obtain⟨cO,t1,yW,yS⟩:=L;dsimp only at ck fc fK o3 ⊢;rw[Array.toList_push] at ck;have lI:ElemsOf (optKind prog w) cO.toList:=(S.el.push eS lD).perm ck;have d0:cO.size=es.size+1:=by rw[<-ak,ck.length_eq,au,ak];rfl
  have lM:cO.size<scanBound:=by omega
  refine aa (way _ ?_)
  -- jT table,not plain any more
  have tail:∀(g:Bool->Sem Unit),(∀(b:Bool) (s1:Shared) (Q':Unit->Shared->Prop),Q' () s1->wpAny (model prog w) A (g b) Q' E s1)->∀t2:SetTable,t2.fits cO.size=true->t2.led=t.led->(t2.plain=false\/∀e∈cO.toList,e.2=.none)->wpAny (model prog w) A (do
    storeSet a cO t2
    if (!yW&&t2.tooFull)=true then do
        g (relayAll t2 cO (SetTable.grown cO.size)).2.2
        storeSet a (relayAll t2 cO (SetTable.grown cO.size)).1 (relayAll t2 cO (SetTable.grown cO.size)).2.1
        pure (some true)
     else pure (some true)) (fun r s'=>wpAny (model prog w) A (match r with | some added=>pure added | none=>setAddHashedIn a v ((optKind prog w).hash x) 99999) Q E s') E s:=by
   intro g hg t2 f2 l2 p2;refine aa (mO ho lM fun h1 sd g1=>?_);have pf:∀b,Q b { s with heap:=h1 }:=h h1 cO _ t2 sd ⟨g1,lI,lM,f2,⟨l2.trans S.marks.led,p2⟩⟩ (.inr ⟨ni,ck⟩)
   split
   ·have hp:=relayAll_perm t2 cO (SetTable.grown cO.size);have kC:=relayAll_fits t2 cO (SetTable.grown cO.size);have nj:(relayAll t2 cO (SetTable.grown cO.size)).2.1.led=t2.led/\((relayAll t2 cO (SetTable.grown cO.size)).2.1.plain=false\/∀e∈cO.toList,e.2=.none):=⟨IL _ _ _,p2.imp (fun z=>(BH t2 cO _ z).2) id⟩
    generalize relayAll t2 cO (SetTable.grown cO.size)=Rl at hp kC nj ⊢;obtain⟨ja,t3,tx⟩:=Rl;dsimp only at hp kC nj ⊢;have kA:ja.size=cO.size:=by rw[<-ak,hp.length_eq,ak]
    refine aa (hg _ _ _ ?_);refine aa (mO (s:={ s with heap:=h1 }) g1 (by rw[kA];exact lM) fun h2 mZ g2=>ab (ab ?_));exact h h2 ja _ t3 (sd.trans mZ) ⟨g2,lI.perm hp,by rw[kA];exact lM,kC,⟨(nj.1.trans l2).trans S.marks.led,nj.2.imp id fun z e he=>z e (hp.mem_iff.mp he)⟩⟩ (.inr ⟨ni,hp.trans ck⟩) _
   ·exact ab (ab (pf _))
  by_cases dA:t1.plain=true
  ·rw[if_pos dA];refine aa ?_;rw[hashByValue_scannable 8 lD];refine ab ?_;rcases jo eS with⟨rfl,rfl⟩ | ⟨y,tk,rfl,rfl⟩
   ·have hk:plainKind .none=true:=rfl;rw[hk];simp only[aY];have all:∀e∈cO.toList,e.2=.none:=fun e he=>by
     have h0:=S.marks.plain.resolve_left (by rw[o3 dA];simp);rcases aA.mp (ck.mem_iff.mp he) with he | he
     ·exact h0 e he
     ·rw[aD.mp he]
    exact tail _ (fun b s1 Q' q=>by cases b<;>first | exact ab q | exact wpAny_rule q) t1 fc fK (.inr all)
   ·have hk:plainKind (.str y tk)=false:=rfl;rw[hk];simp only[ay,aU];exact tail _ (fun b s1 Q' q=>by cases b<;>first | exact ab q | exact wpAny_rule q) { t1 with plain:=false } (SetTable.fits_plain_off fc) fK (.inl rfl)
  ·rw[if_neg dA];refine aa (ab ?_);simp only[aY];exact tail _ (fun b s1 Q' q=>by cases b<;>first | exact ab q | exact wpAny_rule q) t1 fc fK (.inl (by simpa using dA))
noncomputable def keysOf(es:Array (Int×Value)):List (Option Str):=es.toList.map fun e=>l5 e.2
theorem qV{es:Array (Int×Value)}(el:ElemsOf (optKind prog w) es.toList)(k:Option Str):Mem prog w es k↔k∈keysOf es:=by
 unfold Mem keysOf;rw[aF];constructor
 ·rintro⟨e,he,hk⟩;exact⟨e,he,pS hk⟩
 ·rintro⟨e,he,rfl⟩;obtain⟨⟨k,hk,_⟩,_⟩:=el e he;refine⟨e,he,?_⟩;rw[pS hk];exact hk
theorem wI{es bJ:Array (Int×Value)}{x:Option Str}{v:Value}{hs:Int}(hv:fk x v=true)(p:List.Perm bJ.toList (es.toList++[(hs,v)])):List.Perm (keysOf bJ) (keysOf es++[x]):=by
 have:=p.map fun e=>l5 e.2
 rw[aO,List.map_singleton,pS hv] at this;exact this
structure Holds (es:Array (Int×Value)) (xs:List (Option Str)):Prop where
 nd:(keysOf es).Nodup
 mem:∀x,x∈keysOf es↔x∈xs
 len:es.size<=xs.length
theorem Holds.put{es bJ:Array (Int×Value)}{xs:List (Option Str)}{x:Option Str}{v:Value}(hv:fk x v=true)(H:Holds es xs)(el:ElemsOf (optKind prog w) es.toList)
  (h:(bJ=es/\Mem prog w es x)\/(¬Mem prog w es x/\List.Perm bJ.toList (es.toList++[((optKind prog w).hash x,v)]))):Holds bJ (xs++[x]):=by
 rcases h with⟨rfl,hm⟩ | ⟨hm,hp⟩
 ·refine⟨H.nd,fun y=>?_,by simp;have:=H.len;omega⟩;rw[aA,<-H.mem,aD];constructor
  ·exact .inl
  ·rintro(h | rfl)
   ·exact h
   ·exact(qV el _).mp hm
 ·have hk:=wI hv hp;refine⟨hk.nodup_iff.mpr ?_,fun y=>?_,?_⟩
  ·rw[List.nodup_append];refine⟨H.nd,by simp,fun a ha b hb=>?_⟩;rw[aD.mp hb];rintro rfl;exact hm ((qV el _).mpr ha)
  ·rw[hk.mem_iff,aA,aA,H.mem]
  ·have e1:=hk.length_eq;have e2:(keysOf bJ).length=bJ.size:=by simp[keysOf]
   have e3:(keysOf es).length=es.size:=by simp[keysOf]
   have:=H.len;simp only[au,aw,aT] at e1 ⊢;omega
theorem bg.kept{h h':Heap}{a:Addr}{es:Array (Int×Value)}{ep:Nat}{t:SetTable}(S:bg prog w h a es ep t)(k:∀o,h.get? a=some o->h'.get? a=some o):bg prog w h' a es ep t:=⟨k _ S.at_,S.el,S.small,S.fits,S.marks⟩
end
section
variable {prog:Program} {w:World} {A:Around} {R:Result->Shared->Prop} {I:Addr} {fp wr:List Addr} {G:Array GenState->Array GenState->Prop} {n:Nat} {P:Nat->Value->Prop} {St:Nat->Shared->Prop}
theorem wH(W:WalksS prog w A.in1 I fp wr G n P St)(S:Addr)(kU:S∉fp)(xs:List (Option Str))(hx:xs.length=n)(jE:∀i v,P i v->∃x,xs[i]?=some x/\fk x v=true)(hb:n+1<scanBound) :
  ∀(k i:Nat) (s:Shared) (es:Array (Int×Value)) (ep:Nat) (t:SetTable),n-i=k->i<=n->St i s->bg prog w s.heap S es ep t->Holds es (xs.take i)->
   (∀s' bJ eE t',Moved (S::wr) G s s'->bg prog w s'.heap S bJ eE t'->Holds bJ xs->R (.ok (.ret .none)) s')->codeAny (model prog w) A (.builtin "set.update.loop" ⟨[.ref S,.ref I],[]⟩) R s:=by
 have lr:S∉wr:=fun h=>kU (W.sub _ h)
 have more:∀b∈wr,b∈S::wr:=fun b hb=>aM _ hb
 intro k;induction k with
 | zero=>
  intro i s es ep t hk hi st T H q;have e:i=n:=by omega
  subst e;refine codeAny_builtin PyProof.Rows.F.entry_set_update_loop ?_;rw[Around.under_plainId aR _];show wpAny _ A.in1 (pyNext (.ref I) >>= _) _ _ s;refine aa (W.done s _ _ st fun s' hm=>?_);show wpAny _ A.in1 (ret Value.none) _ _ s';rw[<-hx,List.take_length] at H;exact ab (q s' es ep t (hm.mono more) (T.kept fun o e=>hm.heap S _ lr e) H)
 | succ k ih=>
  intro i s es ep t hk hi st T H q;have dg:i<n:=by omega
  refine codeAny_builtin PyProof.Rows.F.entry_set_update_loop ?_;rw[Around.under_plainId aR _];show wpAny _ A.in1 (pyNext (.ref I) >>= _) _ _ s;refine aa (W.item i s _ _ dg st fun v s' hP iW hm=>?_);obtain⟨x,x9,hv⟩:=jE i v hP;have T':bg prog w s'.heap S es ep t:=T.kept fun o e=>hm.heap S _ lr e
  show wpAny _ A.in1 (holding [v] (setAdd S v) >>= _) _ _ s';refine aa (aQ ?_);unfold setAdd;refine aQ (aa ((optKind prog w).pyHash (k:=x) hv ?_));have hl:=H.len;rw[aL] at hl;refine gr (s:={ s' with toks:=s'.toks+1 }) hv T' (by omega) fun h' bJ eE t' sb T2 lF b=>?_
  have nU:xs.take (i+1)=xs.take i++[x]:=by rw[List.take_add_one,x9];rfl
  have H2:Holds bJ (xs.take (i+1)):=by rw[nU];exact H.put hv T.el lF
  refine ab ⟨plainId_quiet aR _,ih (i+1) _ bJ eE t' (by omega) dg (W.frame _ s' _ _ iW (Nat.le_succ _) fun b hb o e=>?_) T2 H2 fun s2 ja pj t2 gV T3 H3=>?_⟩
  ·rw[sb.2 b (fun z:b=S=>kU (by rw[<-z];exact hb))];exact e
  ·refine q s2 ja pj t2 (Moved.trans W.gtrans ((hm.mono more).then_heap (Nat.le_succ _) fun b o hb e=>?_) gV) T3 H3;rw[sb.2 b (fun z:b=S=>hb (by rw[z];exact List.mem_cons_self))];exact e
end
end L2.SO
namespace L2.SO
open PySem PySem.Spec PyProof.Rows L2
section
variable {prog:Program} {w:World} {A:Around} {E:Value->Shared->Prop} {s:Shared}
theorem gu{h:Heap}{a:Addr}(e:h.get? a=some (eJ w)):bg prog w h a #[] 0 (.fresh 0 0 (!(w.params.followText "set-order"))):=
 ⟨e,fun x hx=>by simp at hx,by show 0<4096;decide,by simp[SetTable.fits,SetTable.fresh,SetTable.fill],⟨rfl,.inr (by simp)⟩⟩
theorem iX{l:Addr}{items:List Value}{xs:List (Option Str)}{Q:Value->Shared->Prop}(hh:A.handled=none)(hl:s.heap.IsList l items.toArray)(qe:xs.length=items.length)(hi:∀(i:Nat) v,items[i]?=some v->∃x,xs[i]?=some x/\fk x v=true)(hb:xs.length+1<scanBound)
  (h:∀(h':Heap) (tk:Nat) es ep t,bg prog w h' s.heap.objs.size es ep t->SO.Holds es xs->(∀b o,b<s.heap.objs.size->s.heap.get? b=some o->h'.get? b=some o)->Q (.ref s.heap.objs.size) { s with heap:=h',toks:=tk }) :
  wpAny (model prog w) A (call (.type "set") [.ref l]) Q E s:=by
 obtain⟨c,tl,yq⟩:=PySem.F.called_set.mro;have sS:=PySem.F.called_set.made;have sM:=PySem.F.called_set.sub;refine wpAny_call (codeAny_of_tree ?_);show wpAny _ _ (callAny (.type "set") _) _ _ _;refine ab ⟨Code.quiet_builtin _ (by decide +kernel),codeAny_builtin PySem.F.entry_type_call ?_⟩;rw[Around.under_plain (weight_type_call_type "set" [.ref l] []) rfl];have h1:=PySem.F.called_set.notType;have h2:=PySem.F.called_set.canCreate;have Ly:=PySem.F.typeCall_set_1 (.ref l);repeat(any_goals (first | assumption | wp_step))
 refine codeAny_mono (AE (.ref l) (E:=E) (Q1:=fun obj s1=>obj=.ref s.heap.objs.size/\s1={ s with heap:=s.heap.push (eJ w) }) ⟨rfl,rfl⟩) fun r s1 hr=>?_
 cases r with
 | error e=>exact hr
 | ok fl=>
  cases fl with
  | ret obj=>
   obtain⟨rfl,rfl⟩:=hr;have hS:(s.heap.push (eJ w)).get? s.heap.objs.size=some (eJ w):=ao _ rfl;have hT:Shared.TypeIs { s with heap:=s.heap.push (eJ w) } (.ref s.heap.objs.size) "set":=⟨_,hS,rfl⟩
   have Lj:=PySem.F.called_set.init.lookup;have LA:=PySem.F.called_set.init.bind (.ref s.heap.objs.size);repeat(any_goals (first | assumption | wp_step))
   refine codeAny_mono (codeAny_call_builtin (R:=wants (fun r s2=>r=.none/\∃h' tk es ep t,s2={ s with heap:=h',toks:=tk }/\bg prog w h' s.heap.objs.size es ep t/\SO.Holds es xs/\
     (∀b o,b<s.heap.objs.size->s.heap.get? b=some o->h'.get? b=some o)) E) PySem.F.called_set.init.plain PySem.F.entry_set_init (check_set_init_1 hT ?_)) fun r2 s2 oZ=>?_
   ·obtain⟨ol,oe,iJ,nl,tm⟩:=hl;obtain⟨xQ,lx,sg,jA⟩:=ol;simp only at iJ tm;subst iJ tm;have lG:(s.heap.push (eJ w)).get? l=some { cls:=.type "list",dict:=lx,data:=.seq items.toArray nl,slots:=jA }:=ae _ oe;have yf:=PySem.F.sub_list_set;have yg:=PySem.F.sub_list_frozenset;have cH:(Value.type "list"==Value.type "dict")=false:=by decide
    have j3:(s.heap.push (eJ w)).IsList l items.toArray:=⟨_,lG,rfl,nl,rfl⟩
    unfold Builtin.«set.__init__» noKeywords Builtin.Frozenset.updateFrom;generalize yN:pyIter=PI;wp_walk
    subst yN;refine wpAny_pyIter_list j3 (aa (wpAny_runValue ?_));have sU:l<s.heap.objs.size:=aj oe;have yD:A.in1.in1.in1.handled=none:=by simp[hh]
    have d0:(s.heap.push (eJ w)).objs.size=s.heap.objs.size+1:=Heap.size_push ..;have o5:l≠(s.heap.push (eJ w)).objs.size:=by rw[d0];exact az (Nat.lt_succ_of_lt sU)
    have kU:s.heap.objs.size∉[(s.heap.push (eJ w)).objs.size,l]:=by
     rw[d0];simp only[ai,aB,or_false,not_or];exact⟨az (Nat.lt_succ_self _),Nat.ne_of_gt sU⟩
    have qe:xs.length=items.toArray.size:=by rw[ah];exact qe
    have jE:∀(i:Nat) (v:Value),items.toArray[i]?=some v->∃x,xs[i]?=some x/\fk x v=true:=fun i v hv=>by
     rw[List.getElem?_toArray] at hv;exact hi i v hv
    refine wH ((Walks.list yD _ l o5 items.toArray).toS) s.heap.objs.size kU xs qe jE (by omega) (items.toArray.size-0) 0 _ #[] 0 _ (by omega) (Nat.zero_le _)
     ⟨⟨_,ao _ rfl,rfl,rfl⟩,(j3.push _)⟩ (gu (ae _ hS)) ⟨by simp[keysOf],by simp[keysOf],by simp⟩ ?hR
    case hR=>
     intro s' es ep t hm T H;obtain⟨h',g',d',xF,sf⟩:=s';have eg:g'=s.gens:=hm.gens;have ed:d'=s.drawn:=hm.drawn;have eo:sf=s.os:=hm.os;subst eg ed eo;show wpAny _ _ _ _ _ _;refine ab ?_;show wpAny _ _ (ret Value.none) _ _ _;refine ab ⟨rfl,h',xF,es,ep,t,rfl,T,H,fun b o hb e=>?_⟩;refine hm.heap b o ?_ (ae _ (ae _ e));rw[d0];simp only[ai,aB,or_false,not_or];exact⟨az hb,az (Nat.lt_succ_of_lt hb)⟩
   ·cases r2 with
    | error e=>exact oZ
    | ok yU=>
     cases yU with
     | ret r=>
      obtain⟨rfl,h',tk,es,ep,t,rfl,T,H,i7⟩:=oZ;repeat(any_goals (first | assumption | wp_step))
      exact h _ _ es ep t T H i7
     | _=>exact oZ.elim
  | _=>exact hr.elim
end
end L2.SO
namespace L2.SO
open PySem PySem.Spec PyProof.Rows L2
noncomputable def vB(x:Nat):Nat:=(x*5+1)%32
noncomputable def vA:Nat->Nat->Nat
 | 0,x=>x
 | n+1,x=>vA n (vB x)
theorem C1:∀x<32,∀y<32,∃m,m<32/\vA m x=y:=by decide +kernel
theorem wF{owner:Array (Option Nat)}:∀{f i p:Nat},SetTable.layClean.free 31 owner (f+1) i p=none->(owner.getD i (some 0)).isNone=false/\SetTable.layClean.free 31 owner f (SetTable.leap 31 i p).1 (SetTable.leap 31 i p).2=none:=by
 intro f i p h;unfold SetTable.layClean.free at h;split at h
 ·cases h
 ·rename_i hf;refine⟨?_,h⟩;have:=List.find?_eq_none.mp hf 0 (List.mem_range.mpr (by unfold SetTable.runEnd;split<;>omega));cases z:owner.getD i (some 0) with
  | none=>rw[Nat.add_zero,z] at this;exact absurd rfl this
  | some v=>rfl
theorem Gk{owner:Array (Option Nat)}:∀{m f i:Nat},i<32->SetTable.layClean.free 31 owner f i 0=none->m<f->(owner.getD (vA m i) (some 0)).isNone=false:=by
 intro m;induction m with
 | zero=>
  intro f i hi h hm;cases f with
  | zero=>omega
  | succ f=>exact(wF h).1
 | succ m ih=>
  intro f i hi h hm;cases f with
  | zero=>omega
  | succ f=>
   have h2:=(wF h).2;have e:SetTable.leap 31 i 0=(vB i,0):=by unfold SetTable.leap vB;simp
   rw[e] at h2;exact ih (Nat.mod_lt _ (by omega)) h2 (by omega)
theorem GC{owner:Array (Option Nat)}:∀{n f i p:Nat},p<32 ^ n->i<32->SetTable.layClean.free 31 owner (f+n) i p=none->∃i',i'<32/\SetTable.layClean.free 31 owner f i' 0=none:=by
 intro n;induction n with
 | zero=>
  intro f i p hp hi h;have:p=0:=by simpa using hp
  subst this;exact⟨i,hi,h⟩
 | succ n ih=>
  intro f i p hp hi h;have h2:=(wF (f:=f+n) h).2;refine ih ?_ ?_ h2
  ·show p/32<32 ^ n;rw[Nat.pow_succ] at hp;exact Nat.div_lt_of_lt_mul (by rw[Nat.mul_comm];exact hp)
  ·exact Nat.mod_lt _ (by omega)
theorem Eu{owner:Array (Option Nat)}:∀{f i p j:Nat},i<32->SetTable.layClean.free 31 owner f i p=some j->j<32/\(owner.getD j (some 0)).isNone=true:=by
 intro f;induction f with
 | zero=>intro i p j hi h;cases h
 | succ f ih=>
  intro i p j hi h;unfold SetTable.layClean.free at h;split at h
  ·rename_i k hk;cases h;have h1:=List.find?_some hk;have h2:=List.mem_range.mp (List.mem_of_find?_eq_some hk);refine⟨?_,h1⟩;unfold SetTable.runEnd at h2;split at h2<;>omega
  ·exact ih (Nat.mod_lt _ (by omega)) h
theorem GB{owner:Array (Option Nat)}(h0:∃j,j<32/\(owner.getD j (some 0)).isNone=true){i p:Nat}(hi:i<32)(hp:p<2 ^ 64):∃j,SetTable.layClean.free 31 owner (SetTable.turns 31) i p=some j/\j<32/\(owner.getD j (some 0)).isNone=true:=by
 cases h:SetTable.layClean.free 31 owner (SetTable.turns 31) i p with
 | some j=>exact⟨j,rfl,Eu hi h⟩
 | none=>
  exfalso
  obtain⟨i',mv,h2⟩:=GC (n:=13) (f:=33) (aE hp (show 2 ^ 64<=32 ^ 13 by decide)) hi h;obtain⟨j,hj,hn⟩:=h0;obtain⟨m,hm,rfl⟩:=C1 i' mv j hj;rw[Gk mv h2 (by omega)] at hn;cases hn
noncomputable def jn(owner:Array (Option Nat))(l:List Nat):List Nat:=l.filterMap fun j=>owner.getD j none
theorem A4{owner:Array (Option Nat)}{j k:Nat}(hj:j<owner.size)(hn:owner.getD j none=none):∀{l:List Nat},l.Nodup->(jn (owner.setIfInBounds j (some k)) l).Perm (if j∈l then k::jn owner l else jn owner l)
 | [],_=>by simp[jn]
 | a::l,nd=>by
  have ih:=A4 (k:=k) hj hn (aX.mp nd).2;have qp:=(aX.mp nd).1;by_cases ha:a=j
  ·subst ha;rw[if_neg qp] at ih;rw[if_pos (by simp)];unfold jn at ih ⊢;rw[List.filterMap_cons_some (b:=k) (by simp[Array.getD,hj]),List.filterMap_cons_none (f:=fun j=>owner.getD j none) hn];exact ih.cons k
  ·have e:(owner.setIfInBounds j (some k)).getD a none=owner.getD a none:=by
    simp only[Array.getD_eq_getD_getElem?,Array.getElem?_setIfInBounds];rw[if_neg (fun z=>ha z.symm)]
   unfold jn at ih ⊢;have hm:(j∈a::l)↔j∈l:=by simp[Ne.symm ha]
   cases hv:owner.getD a none with
   | none=>
    rw[List.filterMap_cons_none (by rw[e];exact hv),List.filterMap_cons_none (f:=fun j=>owner.getD j none) hv];simp only[hm];exact ih
   | some v=>
    rw[List.filterMap_cons_some (b:=v) (by rw[e];exact hv),List.filterMap_cons_some (f:=fun j=>owner.getD j none) (b:=v) hv];simp only[hm];split
    ·rename_i yB;rw[if_pos yB] at ih;exact(ih.cons v).trans (List.Perm.swap _ _ _)
    ·rename_i yB;rw[if_neg yB] at ih;exact ih.cons v
theorem GA{owner:Array (Option Nat)}(hs:owner.size=32){k:Nat}(hk:k<32)(hp:(jn owner (List.range 32)).Perm (List.range k)):∃j,j<32/\owner.getD j none=none:=by
 refine Classical.byContradiction fun hc=>?_
 have all:∀j∈List.range 32,(owner.getD j none).isSome=true:=fun j hj=>by
  cases h:owner.getD j none with
  | none=>exact absurd ⟨j,List.mem_range.mp hj,h⟩ hc
  | some v=>rfl
 have hl:(jn owner (List.range 32)).length=32:=by
  unfold jn;rw[List.length_filterMap_eq_countP,List.countP_eq_length.mpr all];simp
 have:=hp.length_eq;rw[hl,List.length_range] at this;omega
theorem Bi:∀(hs:List Int) (owner:Array (Option Nat)) (k:Nat),owner.size=32->(jn owner (List.range 32)).Perm (List.range k)->k+hs.length<=32->
  ∃jz:Array (Option Nat),hs.foldl (fun acc h=>do
   let(owner,k) <-acc
   let j <-SetTable.layClean.free 31 owner (SetTable.turns 31) (SetTable.bits h%(31+1)) (SetTable.bits h)
   pure (owner.setIfInBounds j (some k),k+1)) (some (owner,k))=some (jz,k+hs.length)/\jz.size=32/\(jn jz (List.range 32)).Perm (List.range (k+hs.length))
 | [],owner,k,hz,hp,_=>⟨owner,rfl,hz,hp⟩
 | h::hs,owner,k,hz,hp,hl=>by
  rw[aw] at hl;obtain⟨j0,Cc,B8⟩:=GA hz (by omega) hp;have gd:∀j,j<32->owner.getD j (some 0)=owner.getD j none:=fun j hj=>by simp[Array.getD,hz,hj]
  obtain⟨j,hj,sW,Cb⟩:=GB (owner:=owner) ⟨j0,Cc,by rw[gd _ Cc,B8];rfl⟩ (i:=SetTable.bits h%(31+1)) (p:=SetTable.bits h) (Nat.mod_lt _ (by omega)) (by unfold SetTable.bits;omega);rw[gd _ sW] at Cb;have yA:owner.getD j none=none:=by simpa using Cb
  have ym:(jn (owner.setIfInBounds j (some k)) (List.range 32)).Perm (List.range (k+1)):=by
   refine(A4 (by omega) yA List.nodup_range).trans ?_;rw[if_pos (List.mem_range.mpr sW),show List.range (k+1)=List.range k++[k] from List.range_succ];exact(hp.cons k).trans (List.perm_append_singleton k _).symm
  obtain⟨o',e,h1,h2⟩:=Bi hs (owner.setIfInBounds j (some k)) (k+1) (by simpa using hz) ym (by omega);refine⟨o',?_,h1,by rw[aw];rw[show k+(hs.length+1)=k+1+hs.length by omega];exact h2⟩;rw[List.foldl_cons,aw,show k+(hs.length+1)=k+1+hs.length by omega];rw[<-e];congr 1
  show(SetTable.layClean.free 31 owner (SetTable.turns 31) (SetTable.bits h%(31+1)) (SetTable.bits h)).bind _=_;rw[hj];rfl
theorem Et(finger moves:Nat)(led plain:Bool)(hs:Array Int)(hn:hs.size<=31):∃t order,SetTable.laid 31 finger moves led plain hs=some (t,order)/\order.toList.Perm (List.range hs.size)/\t.fits hs.size=true/\t.led=led/\t.plain=plain/\t.mask=31/\t.dummies=#[]:=by
 obtain⟨o',e,h1,h2⟩:=Bi hs.toList (Array.replicate (31+1) none) 0 (by simp) (by
  have:jn (Array.replicate (31+1) none) (List.range 32)=[]:=by
   unfold jn;rw[List.filterMap_eq_nil_iff];intro j hj;have:=List.mem_range.mp hj;simp[Array.getD,this]
  rw[this]
  simp) (by rw[ak];omega)
 rw[Nat.zero_add,ak] at e h2;have el:SetTable.layClean 31 hs=some o':=by
  unfold SetTable.layClean;rw[<-Array.foldl_toList];exact congrArg (Option.map (·.1)) e
 have ord:(((List.range (31+1)).filterMap fun j=>(o'.getD j none).map (j,·)).map (·.2))=jn o' (List.range 32):=by
  unfold jn;rw[List.map_filterMap];congr 1
  funext j
  cases o'.getD j none<;>rfl
 refine⟨_,_,by unfold SetTable.laid;rw[el];rfl,?_,?_,rfl,rfl,rfl,rfl⟩
 ·show(((List.range (31+1)).filterMap fun j=>(o'.getD j none).map (j,·)).map (·.2)).Perm _;rw[ord];exact h2
 ·have hlen:((List.range (31+1)).filterMap fun j=>(o'.getD j none).map (j,·)).length=hs.size:=by
   have:=congrArg List.length ord;rw[af] at this;rw[this,h2.length_eq,List.length_range]
  simp only[SetTable.fits,SetTable.fill,ah,af,hlen];simp;omega
end L2.SO
namespace L2.SO
open PySem PySem.Spec PyProof.Rows L2
section
variable {prog:Program} {w:World} {A:Around} {E:Value->Shared->Prop} {s:Shared} {a:Addr} {es:Array (Int×Value)} {ep:Nat} {t:SetTable}
theorem bg.ty{h:Heap}(S:bg prog w h a es ep t):Shared.TypeIs { s with heap:=h } (.ref a) "set":=⟨_,S.at_,rfl⟩
theorem z6{x:Value}{k:Option Str}{Q:Option Nat->Shared->Prop}(eS:fk k x=true)(S:bg prog w s.heap a es ep t)(h:Q (List.findIdx? (fun e=>fk k e.2) es.toList) s):wpAny (model prog w) A (setFind a x ((optKind prog w).hash k)) Q E s:=by
 have lD:x.scannable=true:=by rcases jo eS with⟨_,rfl⟩ | ⟨_,_,_,rfl⟩<;>rfl
 have eS:(optKind prog w).is k x=true:=eS;unfold setFind setFindIn;refine aa (aS S.at_ rfl S.fits ?_);dsimp only;rw[byScan_of lD S.small S.el];simp only[↓reduceIte];refine aa (wpAny_rule ?_);refine aa (wpAny_setScan_of eS S.at_ rfl S.fits S.el ?_);have h':Q (List.findIdx? (fun e=>(optKind prog w).is k e.2) es.toList) s:=h;cases hr:List.findIdx? (fun e=>(optKind prog w).is k e.2) es.toList with
 | none=>dsimp only;rw[hr] at h';exact ab h'
 | some j=>dsimp only;rw[hr] at h';exact ab (by rw[Nat.zero_add];exact h')
theorem gv{Q:Bool->Shared->Prop}(hT:s.TypeIs (.ref a) "set")(h:Q true s):wpAny (model prog w) A (Builtin.Frozenset.isAnySet (.ref a)) Q E s:=by
 unfold Builtin.Frozenset.isAnySet;show wpAny _ _ (isInstance (.ref a) (.type "set") >>= fun b=>_) _ _ s;refine aa (wpAny_isInstance (T:="set") (b:=true) hT sub_set_self ?_);exact ab h
theorem l9{Q:Array (Int×Value)×Nat×SetTable->Shared->Prop}(S:bg prog w s.heap a es ep t)(h:Q (es,ep,t) s):wpAny (model prog w) A (setState a) Q E s:=aS S.at_ rfl S.fits h
theorem ue{Q:Nat->Shared->Prop}(S:bg prog w s.heap a es ep t)(h:Q es.size s):wpAny (model prog w) A (Builtin.Frozenset.sizeOf a) Q E s:=by
 unfold Builtin.Frozenset.sizeOf setEntries;exact aa (aa (l9 S (ab (ab h))))
theorem we{Q:Nat->Shared->Prop}(S:bg prog w s.heap a es ep t)(h:Q ep s):wpAny (model prog w) A (setEpoch a) Q E s:=by
 unfold setEpoch;exact aa (l9 S (ab h))
theorem z5{Q:Unit->Shared->Prop}{id:String}(S:bg prog w s.heap a es ep t)(h:Q () s):wpAny (model prog w) A (Builtin.Frozenset.unchanged id a ep) Q E s:=by
 unfold Builtin.Frozenset.unchanged;refine aa (we S ?_);rw[if_neg (by simp)];exact ab h
theorem A3{Q:Array (Int×Value)->Shared->Prop}(S:bg prog w s.heap a es ep t)(h:∀(bJ:Array (Int×Value)) d,bJ.toList.Perm es.toList->Q bJ { s with drawn:=d }):wpAny (model prog w) A (setWalk a) Q E s:=by
 unfold setWalk;refine aa (l9 S ?_);dsimp only;unfold setsByText;refine aa (aa (wpAny_askSetting (ab ?_)));by_cases hf:w.params.followText "set-order"=true
 ·rw[show(model prog w).w.params.followText "set-order"=true from hf];simp only[aY];exact aa (wpAny_askSetting (ab (h _ s.drawn (zev _ es))))
 ·have hf:w.params.followText "set-order"=false:=by simpa using hf
  rw[show(model prog w).w.params.followText "set-order"=false from hf];simp only[ay,aU];have hl:t.led=true:=by rw[S.marks.led,hf];rfl
  refine wpAny_ite_split (fun _=>?_) fun _=>?_
  ·refine aa (wG es.size es.toList s _ (by simp) fun ys d hp=>ab (h ys.toArray d hp))
  ·refine aa ?_;show wpAny _ _ (ite ((!t.led&&decide (es.size>1))=true) _ _) _ _ _;rw[hl];simp only[Bool.not_true,Bool.false_and,ay,aU];exact ab (ab (h es s.drawn (.refl _)))
theorem z0{Q:Value->Shared->Prop}(h:Q (.ref s.heap.objs.size) { s with heap:=s.heap.push (eJ w) }):wpAny (model prog w) A (newSet (.type "set")) Q E s:=by
 unfold newSet setsByText;refine aa (aa (wpAny_askSetting (ab ?_)));dsimp only;simp only[newObj];exact aa (wpAny_alloc (ab h))
theorem A2{Q:Value->Shared->Prop}(hT:s.TypeIs (.ref a) "set")(h:Q (.type "set") s):wpAny (model prog w) A (Builtin.Frozenset.baseOf a) Q E s:=by
 unfold Builtin.Frozenset.baseOf;refine aa (wpAny_isInstance (T:="set") (b:=true) hT sub_set_self (ab ?_));exact h
end
end L2.SO
namespace L2.SO
open PySem PySem.Spec PyProof.Rows L2
theorem Ah{n:Nat}(h1:8<=n)(h2:n<=15):SetTable.sizeAbove (n*2)=32:=by
 unfold SetTable.sizeAbove;have:∀m,m<=15->8<=m->SetTable.sizeAbove.go (m*2) 64 8=32:=by decide +kernel
 exact this n h2 h1
theorem Gj{order:Array Nat}{es:Array (Int×Value)}(h:order.toList.Perm (List.range es.size)):(order.filterMap (es[·]?)).toList.Perm es.toList:=by
 have h2:=h.filterMap (fun i=>es[i]?);rw[Array.toList_filterMap];rw[filterMap_getElem?_range] at h2;exact h2
section
variable {prog:Program} {w:World} {A:Around} {E:Value->Shared->Prop} {s:Shared} {a:Addr} {es:Array (Int×Value)} {ep:Nat} {t:SetTable}
structure nD (w:World) (h:Heap) (r:Addr) (ep:Nat) (t:SetTable) (m:Nat):Prop where
 at_:h.get? r=some { cls:=.type "set",dict:=none,data:=.set #[] ep t,slots:=#[] }
 pl:t.place=#[]
 du:t.dummies=#[]
 mask:t.mask=m
 led:t.led=!(w.params.followText "set-order")
theorem wX{r:Addr}{m:Nat}{Q:Array (Int×Value)×Nat×SetTable->Shared->Prop}(B:nD w s.heap r ep t m)(h:Q (#[],ep,t) s):wpAny (model prog w) A (setState r) Q E s:=
 aS B.at_ rfl (by simp[SetTable.fits,SetTable.fill,B.pl,B.du]) h
theorem Es{r:Addr}{n:Nat}{Q:Unit->Shared->Prop}(B:nD w s.heap r ep t 7)(h1:8<=n)(h2:n<=15)(h:∀h' eE t',Heap.SameBut r s.heap h'->nD w h' r eE t' 31->Q () { s with heap:=h' }):wpAny (model prog w) A (setRoomFor r n) Q E s:=by
 unfold setRoomFor;refine aa (wX B ?_);have hr:t.roomFor n=some (n*2):=by
  unfold SetTable.roomFor SetTable.fill;rw[B.pl,B.du,B.mask];simp only[ah,aT,Nat.zero_add];rw[if_pos (by omega)]
 dsimp only;rw[hr];dsimp only;unfold setRelay;refine aa (wX B ?_);dsimp only;rw[Ah h1 h2,if_neg (by have:sizeLine=16777216:=rfl;omega)];have e:t.relaid (Array.map (fun x=>x.fst) (#[]:Array (Int×Value))) (n*2)=some ({ mask:=31,place:=#[],dummies:=#[],finger:=t.finger,led:=t.led,moves:=t.movedTo 31,plain:=t.plain },#[]):=by
  unfold SetTable.relaid;rw[Ah h1 h2];unfold SetTable.laid SetTable.layClean;simp only[List.map_toArray,aW,List.foldl_toArray',List.foldl_nil,ah,aT];rfl
 refine aa ?_;rw[e];show wpAny _ _ (pure (#[],_):Sem (Array (Int×Value)×SetTable)) _ _ s;refine ab ?_;dsimp only;refine mO B.at_ (by decide) fun h' sb g'=>h h' _ _ sb ⟨g',rfl,rfl,rfl,B.led⟩
end
end L2.SO
namespace L2.SO
open PySem PySem.Spec PyProof.Rows L2
section
variable {prog:Program} {w:World} {A:Around} {E:Value->Shared->Prop} {s:Shared} {a:Addr} {es:Array (Int×Value)} {ep:Nat} {t:SetTable}
theorem Gi{r:Addr}{LZ:Nat}{t0:SetTable}{Q:Unit->Shared->Prop}(cH:r≠a)(B:nD w s.heap r LZ t0 7)(S:bg prog w s.heap a es ep t)(h1:8<=es.size)(h2:es.size<=15)
  (h:∀h' bJ eE t',Heap.SameBut r s.heap h'->bg prog w h' r bJ eE t'->bJ.toList.Perm es.toList->t'.mask=31->t'.dummies=#[]->Q () { s with heap:=h' }):wpAny (model prog w) A (setMerge r a) Q E s:=by
 unfold setMerge;rw[if_neg (by simpa using cH)];refine aa (l9 S ?_);dsimp only;rw[if_neg (by rw[Array.isEmpty_iff_size_eq_zero];omega)];refine aa (Es B h1 h2 fun h3 MG t3 mY B3=>?_);have S3:bg prog w h3 a es ep t:=S.kept fun o e=>by rw[mY.2 a (Ne.symm cH)];exact e
 refine aa (wX (s:={ s with heap:=h3 }) B3 ?_);dsimp only;have tf:t3.fill=0:=by unfold SetTable.fill;rw[B3.pl,B3.du];rfl
 have fK:(t3.led&&t.led)=!(w.params.followText "set-order"):=by rw[B3.led,S.marks.led];simp
 have dA:(t3.plain&&t.plain)=false\/∀e∈es.toList,e.2=.none:=S.marks.plain.imp (fun z=>by rw[z];simp) id
 unfold SetTable.road;rw[tf,if_neg (by simp)];by_cases hc:(t3.mask==t.mask&&t.dummies.isEmpty)=true
 ·rw[if_pos hc];dsimp only;simp only[Bool.and_eq_true,beq_iff_eq,Array.isEmpty_iff] at hc;refine mO (s:={ s with heap:=h3 }) B3.at_ S.small fun h4 p9 g4=>h h4 _ _ _ (mY.trans p9) ⟨g4,S.el,S.small,S.fits,⟨fK,dA⟩⟩ (.refl _) (by show t.mask=31;rw[<-hc.1];exact B3.mask) hc.2
 ·rw[if_neg hc];dsimp only;obtain⟨t4,order,e4,p4,f4,l4,KC,m4,d4⟩:=Et t3.finger t3.moves (t3.led&&t.led) (t3.plain&&t.plain) (es.map (·.1)) (by rw[Array.size_map];omega);rw[Array.size_map] at p4 f4;refine aa ?_;rw[B3.mask,e4];have pp:=Gj p4;have d0:(order.filterMap (es[·]?)).size=es.size:=by rw[<-ak,pp.length_eq,ak]
  show wpAny _ _ (ite (((order.filterMap (es[·]?)).size != es.size)=true) _ (pure (order.filterMap (es[·]?),t4))) _ _ _;rw[if_neg (by rw[d0];simp)];refine ab ?_;dsimp only;refine mO (s:={ s with heap:=h3 }) B3.at_ (by rw[d0];exact S.small) fun h5 Ko g5=>h h5 _ _ _ (mY.trans Ko) ⟨g5,S.el.perm pp,by rw[d0];exact S.small,by rw[d0];exact f4,⟨by rw[l4];exact fK,?_⟩⟩ pp m4 d4
  exact dA.imp (fun z=>by rw[KC];exact z) fun z e he=>z e (pp.mem_iff.mp he)
theorem Er{Q:Value->Shared->Prop}(S:bg prog w s.heap a es ep t)(h1:8<=es.size)(h2:es.size<=15)
  (h:∀h' bJ eE t',(∀b o,s.heap.get? b=some o->h'.get? b=some o)->bg prog w h' s.heap.objs.size bJ eE t'->bJ.toList.Perm es.toList->t'.mask=31->t'.dummies=#[]->Q (.ref s.heap.objs.size) { s with heap:=h' }):wpAny (model prog w) A (Builtin.Frozenset.copyOf a) Q E s:=by
 unfold Builtin.Frozenset.copyOf;refine aa (A2 S.ty (aa (z0 ?_)));refine aa (ab ?_);have dg:a<s.heap.objs.size:=aj S.at_;have hS:(s.heap.push (eJ w)).get? s.heap.objs.size=some (eJ w):=ao _ rfl;refine aa (Gi (s:={ s with heap:=s.heap.push (eJ w) }) (r:=s.heap.objs.size) (Nat.ne_of_gt dg) ⟨hS,rfl,rfl,rfl,rfl⟩ (S.kept fun o e=>ae _ e) h1 h2 fun h' bJ eE t' sb S' p m d=>ab ?_);refine h h' bJ eE t' (fun b o e=>?_) S' p m d;rw[sb.2 b (az (aj e))];exact ae _ e
end
end L2.SO
namespace L2.SO
open PySem PySem.Spec PyProof.Rows L2
theorem Bw{α:Type}(xs:Array α)(i:Nat):(SetTable.eraseAt xs i).toList=xs.toList.eraseIdx i:=by
 unfold SetTable.eraseAt;rw[Array.toList_append,Array.toList_extract,Array.toList_extract,List.eraseIdx_eq_take_drop_succ];simp only[List.extract,List.drop_zero,Nat.sub_zero];rw[List.take_of_length_le (l:=List.drop (i+1) xs.toList) (by rw[List.length_drop,ak];exact aq _)]
section
variable {prog:Program} {w:World} {A:Around} {E:Value->Shared->Prop} {s:Shared} {a:Addr} {es:Array (Int×Value)} {ep:Nat} {t:SetTable}
theorem Bh{h:Heap}(O:bg prog w h a es ep t)(ho:keysOf es=[none]):es=#[((optKind prog w).hash none,.none)]:=by
 obtain⟨l⟩:=es;have el:=O.el;unfold keysOf at ho;simp only at ho el;cases l with
 | nil=>simp at ho
 | cons e r=>
  cases r with
  | cons e2 r=>simp at ho
  | nil=>
   obtain⟨⟨k,hk,he⟩,_⟩:=el e (by simp);have i7:fk k e.2=true:=hk;have:k=none:=by rw[<-pS i7];simpa using ho
   subst this;obtain⟨e1,e2⟩:=e;simp only at he i7;rcases jo i7 with⟨_,rfl⟩ | ⟨_,_,z,_⟩
   ·rw[he]
   ·cases z
theorem C0{h:Heap}(S:bg prog w h a es ep t)(ni:none∉keysOf es):L2.bg prog w h a es ep t/\keysOf es=(L2.keysOf es).map some:=by
 have sh:∀e∈es.toList,∃x tk,e.2=.str x tk/\e.1=hashStr w x:=fun e he=>by
  obtain⟨⟨k,hk,hh⟩,_⟩:=S.el e he;rcases jo (show fk k e.2=true from hk) with⟨rfl,z⟩ | ⟨x,tk,rfl,z⟩
  ·refine absurd ?_ ni;unfold keysOf;exact aF.mpr ⟨e,he,by rw[z];rfl⟩
  ·exact⟨x,tk,z,hh⟩
 refine⟨⟨S.at_,fun e he=>?_,S.small,S.fits,⟨S.marks.led,?_⟩⟩,?_⟩
 ·obtain⟨x,tk,z,hh⟩:=sh e he;exact⟨⟨x,by rw[z];show Value.isStrOf x (.str x tk)=true;simp[Value.isStrOf],hh⟩,(S.el e he).2⟩
 ·rcases S.marks.plain with z | z
  ·exact .inr z
  ·left
   cases hl:es.toList with
   | nil=>rw[<-ak,hl];rfl
   | cons e r=>
    have hm:e∈es.toList:=by rw[hl];simp
    obtain⟨x,tk,q,_⟩:=sh e hm;rw[z e hm] at q;cases q
 ·unfold keysOf L2.keysOf;rw[List.map_map];refine List.map_congr_left fun e he=>?_
  obtain⟨x,tk,z,_⟩:=sh e he;show l5 e.2=some (strOf e.2);rw[z];rfl
theorem He{n i:Nat}(hi:i<n)(h:t.fits n=true):(t.drop i).fits (n-1)=true:=by
 simp only[SetTable.fits,Bool.and_eq_true,beq_iff_eq,decide_eq_true_eq] at h ⊢;have hp:t.place[i]?=some (t.place[i]'(by omega)):=Array.getElem?_eq_getElem _;unfold SetTable.drop;rw[hp];dsimp only;have e1:(SetTable.eraseAt t.place i).size=n-1:=by
  rw[<-ak,Bw,List.length_eraseIdx,if_pos (by rw[ak];omega),ak];omega
 have e2:∀p j,(SetTable.insertAt t.dummies p j).size=t.dummies.size+1:=fun p j=>by
  rw[<-ak,(SetTable.insertAt_perm t.dummies p j).length_eq,Array.toList_push,au,ak];rfl
 refine⟨e1,?_⟩;have h2:=h.2;unfold SetTable.fill at h2 ⊢;simp only;rw[e1,e2];omega
theorem HF{Q:Bool->Shared->Prop}(S:bg prog w s.heap a es ep t)(nd:(keysOf es).Nodup)(hd:t.dummies=#[])(hm:t.mask=31)
  (h:∀h' bJ eE t',Heap.SameBut a s.heap h'->bg prog w h' a bJ eE t'->none∉keysOf bJ->(keysOf bJ).Nodup->(∀x,some x∈keysOf bJ↔some x∈keysOf es)->bJ.size<=es.size->t'.tooManyDummies=false->∀b,Q b { s with heap:=h' }) :
  wpAny (model prog w) A (setDiscardHashed a .none ((optKind prog w).hash none)) Q E s:=by
 unfold setDiscardHashed;refine aa (z6 rfl S ?_);cases hr:List.findIdx? (fun e=>fk none e.2) es.toList with
 | none=>
  dsimp only;refine ab (h s.heap es ep t (Heap.SameBut.refl a s.heap) S (fun hn=>?_) nd (fun x=>Iff.rfl) (aq _) ?_ _)
  ·unfold keysOf at hn;obtain⟨e,he,z⟩:=aF.mp hn;have:=List.findIdx?_eq_none_iff.mp hr e he;obtain⟨⟨k,hk,_⟩,_⟩:=S.el e he;have i7:fk k e.2=true:=hk;rw[pS i7] at z;subst z;rw[i7] at this;cases this
  ·unfold SetTable.tooManyDummies;rw[hd];simp
 | some i=>
  dsimp only;obtain⟨hi,Le,_⟩:=List.findIdx?_eq_some_iff_getElem.mp hr;have mv:i<es.size:=by simpa using hi
  refine aa (l9 S ?_);dsimp only;have hl:=Bw es i;have d0:(SetTable.eraseAt es i).size=es.size-1:=by rw[<-ak,hl,List.length_eraseIdx,if_pos hi,ak]
  have ek:keysOf (SetTable.eraseAt es i)=(keysOf es).eraseIdx i:=by
   unfold keysOf;rw[hl,List.eraseIdx_eq_take_drop_succ,List.eraseIdx_eq_take_drop_succ,aO,List.map_take,List.map_drop]
  have B9:(keysOf es)[i]?=some none:=by
   unfold keysOf;rw[aK,ar hi];simp only[Option.map_some,aV];exact pS Le
  have ck:(none::(keysOf es).eraseIdx i).Perm (keysOf es):=by
   have dg:=(ax.mp B9).1;have:=uE dg;rw[(ax.mp B9).2] at this;exact this
  have xU:=ck.nodup_iff.mpr nd;rw[aX] at xU;refine aa (mO S.at_ (by rw[d0];have:=S.small;omega) fun h' sb g'=>aa (wpAny_point (ab ?_)));refine h h' _ _ _ sb ⟨g',fun e he=>S.el e (List.mem_of_mem_eraseIdx (by rw[<-hl];exact he)),by rw[d0];have:=S.small;omega,by rw[d0];exact He mv S.fits,⟨?_,?_⟩⟩ (by rw[ek];exact xU.1) (by rw[ek];exact xU.2) (fun x=>?_) (by rw[d0];omega) ?_ _
  ·unfold SetTable.drop;split
   ·exact S.marks.led
   ·exact S.marks.led
  ·rcases S.marks.plain with z | z
   ·left
    unfold SetTable.drop;split
    ·exact z
    ·exact z
   ·exact .inr fun e he=>z e (List.mem_of_mem_eraseIdx (by rw[<-hl];exact he))
  ·rw[ek,<-ck.mem_iff,ai];simp
  ·unfold SetTable.tooManyDummies SetTable.drop;split
   ·dsimp only;rw[hd,hm];simp[SetTable.insertAt]
   ·rw[hd];simp
end
end L2.SO
namespace L2.SO
open PySem PySem.Spec PyProof.Rows L2
section
variable {prog:Program} {w:World} {A:Around} {E:Value->Shared->Prop} {s:Shared} {a o:Addr} {es eo:Array (Int×Value)} {ep mw:Nat} {t to:SetTable}
theorem HE{Q:Array (Int×Value)->Shared->Prop}{others:List Addr}{f:Option Addr}(S:bg prog w s.heap a es ep t)(h1:es.size<=1)(h:∀d,Q es { s with drawn:=d }):wpAny (model prog w) A (setWalkUnseen a others f) Q E s:=by
 unfold setWalkUnseen;refine aa (l9 S ?_);dsimp only;unfold setsByText;refine aa (aa (wpAny_askSetting (ab ?_)));rw[if_pos (by rw[decide_eq_true h1];simp)];refine wpAny_mono (A3 S (Q:=fun bJ s'=>bJ=es/\∃d,s'={ s with drawn:=d }) fun bJ d hp=>⟨?_,d,rfl⟩) (fun bJ s' ⟨e,d,q⟩=>by subst e q;exact h d) fun _ _ z=>z
 obtain⟨l⟩:=es;obtain⟨l'⟩:=bJ;have hl:l.length<=1:=by simpa using h1
 have qh:l'.Perm l:=hp;cases l with
 | nil=>rw[List.perm_nil.mp qh]
 | cons e r=>
  have:r=[]:=List.eq_nil_of_length_eq_zero (by rw[aw] at hl;omega);subst this;rw[List.perm_singleton.mp qh]
theorem Ep{Q:Unit->Shared->Prop}(S:bg prog w s.heap a es ep t)(hd:t.tooManyDummies=false)(h:Q () s):wpAny (model prog w) A (setTidy a) Q E s:=by
 unfold setTidy;refine aa (l9 S ?_);dsimp only;rw[hd];exact ab h
theorem Gh{Q:Unit->Shared->Prop}{id:String}(cH:o≠a)(S:bg prog w s.heap a es ep t)(O:bg prog w s.heap o eo mw to)(ho:keysOf eo=[none])(nd:(keysOf es).Nodup)(hd:t.dummies=#[])(hm:t.mask=31)
  (h:∀h' d bJ eE t',Heap.SameBut a s.heap h'->bg prog w h' a bJ eE t'->none∉keysOf bJ->(keysOf bJ).Nodup->(∀x,some x∈keysOf bJ↔some x∈keysOf es)->bJ.size<=es.size->Q () { s with heap:=h',drawn:=d }) :
  wpAny (model prog w) A (Builtin.Frozenset.differenceUpdate id a (.ref o)) Q E s:=by
 have e0:=Bh O ho;unfold Builtin.Frozenset.differenceUpdate;rw[if_neg (by simpa using cH)];refine aa (gv O.ty ?_);rw[if_pos rfl];refine aa (ab ?_);refine aa (ue O (aa (ue S ?_)));rw[if_neg (by rw[e0];simp)];refine aa (we O ?_);refine aa (aQ ?_);refine aa (HE O (by rw[e0];simp) fun d=>?_);rw[e0];rw[List.forIn_toArray,List.forIn_cons];refine aa (aa (aa (aQ (HF (s:={ s with drawn:=d }) S nd hd hm fun h' bJ eE t' sb S' n1 n2 n3 n4 n5 b=>?_))));have O':bg prog w h' o eo mw to:=O.kept fun ob e=>by rw[sb.2 o cH];exact e
 refine aa (z5 (s:={ s with heap:=h',drawn:=d }) O' ?_);refine ab ?_;dsimp only;rw[List.forIn_nil];refine ab (ab ?_);exact Ep (s:={ s with heap:=h',drawn:=d }) S' n5 (h h' d bJ eE t' sb S' n1 n2 n3 n4)
end
end L2.SO
namespace L2.SO
open PySem PySem.Spec PyProof.Rows L2
section
variable {prog:Program} {w:World} {A:Around} {E:Value->Shared->Prop} {s:Shared} {a o r:Addr} {es eo:Array (Int×Value)} {ep mw lQ:Nat} {t to tr:SetTable}
theorem quiet{sets:List Addr}{Q:Bool->Shared->Prop}(h:∀b∈sets,∃es:Array (Int×Value),(∀(Q:Array (Int×Value)->Shared->Prop),Q es s->wpAny (model prog w) A (setEntries b) Q E s)/\∀e∈es.toList,e.2.scannable=true)(q:Q true s):wpAny (model prog w) A (setsQuiet sets) Q E s:=by
 unfold setsQuiet;refine aa (wpAny_forIn_list _ (fun eU b s'=>b=(none,())/\s'=s/\∀x∈eU,x∈sets) _ (fun x eU b s' hI=>?_) (fun b s' hI=>?_) sets _ ⟨rfl,rfl,fun x hx=>hx⟩)
 ·obtain⟨rfl,LY,hs⟩:=hI;rw[LY];obtain⟨es,he,lD⟩:=h x (hs x (by simp));refine aa (he _ ?_);rw[<-Array.forIn_toList];refine aa (wpAny_forIn_list _ (fun eU b s2=>b=(none,())/\s2=s/\∀e∈eU,e.2.scannable=true) _ (fun e eU b s2 hI=>?_) (fun b s2 hI=>?_) es.toList _ ⟨rfl,rfl,lD⟩)
  ·obtain⟨rfl,ja,hr⟩:=hI;rw[ja];have h1:=hr e (by simp);obtain⟨e1,e2⟩:=e;have fin:∀{P:ForInStep (Option Bool×Unit)->Shared->Prop},P (.yield (none,())) s->wpAny (model prog w) A (pure (ForInStep.yield (none,()))) P E s:=fun z=>ab z
   have z:((none,()):Option Bool×Unit)=(none,())/\s=s/\∀e∈eU,e.2.scannable=true:=⟨rfl,rfl,fun e he=>hr e (by simp[he])⟩
   cases e2<;>first | exact fin z | cases h1
  ·obtain⟨rfl,ja,_⟩:=hI;rw[ja];exact ab ⟨rfl,rfl,fun y hy=>hs y (by simp[hy])⟩
 ·obtain⟨rfl,ja,_⟩:=hI;rw[ja];exact ab q
theorem HD{Q:Array (Int×Value)->Shared->Prop}(Mx:a≠r)(S:bg prog w s.heap a es ep t)(O:bg prog w s.heap o eo mw to)(R:L2.bg prog w s.heap r #[] lQ tr)
  (h:∀(bJ:Array (Int×Value)) d h' jG oM,bJ.toList.Perm es.toList->Heap.SameBut r s.heap h'->L2.bg prog w h' r #[] jG oM->Q bJ { s with heap:=h',drawn:=d }):wpAny (model prog w) A (setWalkUnseen a [o,r] (some r)) Q E s:=by
 unfold setWalkUnseen;refine aa (l9 S ?_);dsimp only;unfold setsByText;refine aa (aa (wpAny_askSetting (ab ?_)));refine wpAny_ite_split (fun _=>?_) fun _=>?_
 ·exact A3 S fun bJ d hp=>h bJ d s.heap lQ tr hp (Heap.SameBut.refl r s.heap) R
 ·refine aa (quiet (fun b hb=>?_) ?_)
  ·simp only[ai,aB,or_false] at hb;rcases hb with rfl | rfl | rfl
   ·exact⟨es,fun Q q=>by unfold setEntries;exact aa (l9 S (ab q)),fun e he=>(S.el e he).2⟩
   ·exact⟨eo,fun Q q=>by unfold setEntries;exact aa (l9 O (ab q)),fun e he=>(O.el e he).2⟩
   ·exact⟨#[],fun Q q=>by unfold setEntries;exact aa (aS R.at_ rfl R.fits (ab q)),fun e he=>by simp at he⟩
  ·simp only[Bool.not_true,ay,aU];refine aa (wpAny_rule ?_);refine aa (aS R.at_ rfl R.fits ?_);dsimp only;refine wpAny_ite_split (fun _=>?_) fun _=>?_
   ·refine aa (mO R.at_ (by decide) fun h' sb g'=>ab (h es s.drawn h' _ _ (.refl _) sb ⟨g',R.el,by decide,R.fits,⟨?_,.inl rfl⟩⟩));show(tr.led&&t.led)=_;rw[R.marks.led,S.marks.led];simp
   ·exact ab (h es s.drawn s.heap lQ tr (.refl _) (Heap.SameBut.refl r s.heap) R)
theorem minus{Q:Value->Shared->Prop}{id:String}(Ct:a≠o)(S:bg prog w s.heap a es ep t)(O:bg prog w s.heap o eo mw to)(ho:keysOf eo=[none])(nd:(keysOf es).Nodup)(hn:es.size<=15)
  (h:∀h' d bJ eE t',(∀b ob,s.heap.get? b=some ob->h'.get? b=some ob)->L2.bg prog w h' s.heap.objs.size bJ eE t'->(L2.keysOf bJ).Nodup->(∀x,x∈L2.keysOf bJ↔some x∈keysOf es)->Q (.ref s.heap.objs.size) { s with heap:=h',drawn:=d }) :
  wpAny (model prog w) A (Builtin.Frozenset.difference id a (.ref o)) Q E s:=by
 have e0:=Bh O ho;have yr:o<s.heap.objs.size:=aj O.at_;have yx:a<s.heap.objs.size:=aj S.at_;unfold Builtin.Frozenset.difference;refine aa (gv O.ty ?_);rw[if_neg (by simp)];refine aa (ab ?_);rw[if_neg (by simp),if_pos rfl];refine aa (ue O (aa (ue S ?_)));rw[show eo.size=1 by rw[e0];rfl];by_cases hc:es.size/4>1
 ·rw[if_pos hc];refine aa (wpAny_rule ?_);refine aa (Er S (by omega) hn fun h1 cO MH t1 k1 S1 p1 m1 d1=>?_);refine aa (ab ?_);have kp:(keysOf cO).Perm (keysOf es):=p1.map _;refine aa (aQ (Gh (s:={ s with heap:=h1 }) (az yr) S1 (O.kept fun ob e=>k1 o ob e) ho (kp.nodup_iff.mpr nd) d1 m1 fun h2 d ja pj t2 sb S2 n1 n2 n3 n4=>ab ?_));obtain⟨T,ek⟩:=C0 S2 n1;refine h h2 d ja pj t2 (fun b ob e=>?_) T ?_ fun x=>?_
  ·rw[sb.2 b (az (aj e))];exact k1 b ob e
  ·rw[ek] at n2;exact List.Pairwise.of_map some (fun a b z e=>z (by rw[e])) n2
  ·rw[<-kp.mem_iff,<-n3,ek,aF];constructor
   ·exact fun z=>⟨x,z,rfl⟩
   ·rintro⟨y,hy,e⟩;cases e;exact hy
 ·rw[if_neg hc];refine aa (A2 S.ty (aa (z0 ?_)));refine aa (ab ?_);have hS:(s.heap.push (eJ w)).get? s.heap.objs.size=some (eJ w):=ao _ rfl;have k1:∀b ob,s.heap.get? b=some ob->(s.heap.push (eJ w)).get? b=some ob:=fun b ob e=>ae _ e
  have S1:bg prog w (s.heap.push (eJ w)) a es ep t:=S.kept fun ob e=>k1 a ob e
  have O1:bg prog w (s.heap.push (eJ w)) o eo mw to:=O.kept fun ob e=>k1 o ob e
  refine aa (we (s:={ s with heap:=s.heap.push (eJ w) }) S1 ?_);refine aa (aQ ?_);rw[if_pos rfl];refine aa (HD (s:={ s with heap:=s.heap.push (eJ w) }) (az yx) S1 O1 (L2.gu hS) fun bJ d h2 pj t2 hp sb R2=>?_);rw[<-Array.forIn_toList];refine aa (wpAny_forIn_list _ (fun eU _ s'=>∃done h3 er lQ tr,bJ.toList=done++eU/\s'={ s with heap:=h3,drawn:=d }/\Heap.SameBut s.heap.objs.size (s.heap.push (eJ w)) h3/\L2.bg prog w h3 s.heap.objs.size er lQ tr/\L2.Holds er (done.filterMap fun e=>l5 e.2)) _ (fun x eU _ s' hI=>?_) (fun _ s' hI=>?_) bJ.toList _ ⟨[],h2,#[],pj,t2,rfl,rfl,sb,R2,by simp[L2.keysOf],by simp[L2.keysOf],by simp⟩)
  ·obtain⟨done,h3,er,lQ,tr,hl,rfl,mY,R3,H3⟩:=hI;obtain⟨hx,v⟩:=x;have hm:(hx,v)∈es.toList:=hp.mem_iff.mp (by rw[hl];simp);obtain⟨⟨k,hk,hh⟩,_⟩:=S.el _ hm;have hk:fk k v=true:=hk;have hh:hx=(optKind prog w).hash k:=hh;subst hh;have O3:bg prog w h3 o eo mw to:=O1.kept fun ob e=>by rw[mY.2 o (az yr)];exact e
   have S3:bg prog w h3 a es ep t:=S1.kept fun ob e=>by rw[mY.2 a (az yx)];exact e
   dsimp only;refine aa (aQ ?_);rw[if_pos rfl];refine aa (z6 (s:={ s with heap:=h3,drawn:=d }) hk O3 (aa (ab ?_)));rw[e0];have next:∀{P:ForInStep PUnit->Shared->Prop} h4 qr jG oM,(∀s',(∃done h3 er lQ tr,bJ.toList=done++eU/\s'={ s with heap:=h3,drawn:=d }/\Heap.SameBut s.heap.objs.size (s.heap.push (eJ w)) h3/\L2.bg prog w h3 s.heap.objs.size er lQ tr/\L2.Holds er (done.filterMap fun e=>l5 e.2))->P (.yield PUnit.unit) s')->
     Heap.SameBut s.heap.objs.size h3 h4->L2.bg prog w h4 s.heap.objs.size qr jG oM->L2.Holds qr ((done++[((optKind prog w).hash k,v)]).filterMap fun e=>l5 e.2)->wpAny (model prog w) A (Builtin.Frozenset.unchanged id a ep >>= fun _=>pure (ForInStep.yield PUnit.unit)) P E { s with heap:=h4,drawn:=d }:=fun{P} h4 qr jG oM hP p9 R4 H4=>by
    have S4:bg prog w h4 a es ep t:=S3.kept fun ob e=>by rw[p9.2 a (az yx)];exact e
    exact aa (z5 (s:={ s with heap:=h4,drawn:=d }) S4 (ab (hP _ ⟨_,h4,qr,jG,oM,by rw[hl,List.append_assoc];rfl,rfl,mY.trans p9,R4,H4⟩)))
   rcases jo hk with⟨rfl,rfl⟩ | ⟨y,tk,rfl,rfl⟩
   ·have ef:List.findIdx? (fun e=>fk none e.2) (#[((optKind prog w).hash none,Value.none)]:Array (Int×Value)).toList=some 0:=rfl;rw[ef];rw[if_neg (by simp)];refine ab (next h3 er lQ tr (fun _ z=>z) (Heap.SameBut.refl _ h3) R3 ?_);rw[List.filterMap_append];have:List.filterMap (fun e:Int×Value=>l5 e.2) [((optKind prog w).hash none,Value.none)]=[]:=rfl;rw[this,List.append_nil];exact H3
   ·have ef:List.findIdx? (fun e=>fk (some y) e.2) (#[((optKind prog w).hash none,Value.none)]:Array (Int×Value)).toList=none:=rfl;rw[ef];rw[if_pos (by simp)];have hb:er.size+1<scanBound:=by
     have h5:=H3.len;have h6:=List.length_filterMap_le (fun e:Int×Value=>l5 e.2) done;have h7:done.length<=bJ.toList.length:=by rw[hl,au];omega
     have h8:=hp.length_eq;have h9:es.toList.length=es.size:=ak;have:scanBound=4096:=rfl;omega
    refine aa (L2.gr (s:={ s with heap:=h3,drawn:=d }) R3 hb fun h4 qr jG oM p9 R4 lF b=>ab (next h4 qr jG oM (fun _ z=>z) p9 R4 ?_));rw[List.filterMap_append];have:List.filterMap (fun e:Int×Value=>l5 e.2) [((optKind prog w).hash (some y),Value.str y tk)]=[y]:=rfl;rw[this];exact H3.put R3.el lF
  ·obtain⟨done,h3,er,lQ,tr,hl,rfl,mY,R3,H3⟩:=hI;rw[List.append_nil] at hl;subst hl;refine ab (ab (h h3 d er lQ tr (fun b ob e=>?_) R3 H3.nd fun x=>?_))
   ·rw[mY.2 b (az (aj e))];exact k1 b ob e
   ·rw[H3.mem,List.mem_filterMap];unfold keysOf;rw[aF];constructor
    ·rintro⟨e,he,q⟩;exact⟨e,hp.mem_iff.mp he,q⟩
    ·rintro⟨e,he,q⟩;exact⟨e,hp.mem_iff.mpr he,q⟩
end
end L2.SO
namespace L2
open PySem PySem.Spec PyProof.Rows
noncomputable def vO:Option Str->V
 | none=>.non
 | some x=>.str x
theorem IK{α:Type}[DecidableEq α]{l ws:List α}(nd:l.Nodup)(h:∀w∈l,w∈ws):l.length<=ws.length:=by
 induction l generalizing ws with
 | nil=>simp
 | cons a r ih=>
  rw[aX] at nd;have ha:a∈ws:=h a (by simp);have:=ih (ws:=ws.erase a) nd.2 fun w hw=>(List.mem_erase_of_ne fun(z:w=a)=>nd.1 (z▸hw)).mpr (h w (by simp[hw]))
  rw[List.length_erase_of_mem ha] at this;have hp:0<ws.length:=List.length_pos_of_mem ha;simp only[aw];omega
theorem DJ:entryFor table "set.__sub__"=some Builtin.«frozenset.__sub__»:=entryFor_alias (id':="frozenset.__sub__") (by kernel_rfl) rfl (by decide +kernel) (by kernel_rfl)
theorem wc:∀{ss:List (Option Str)} {us:List Value},Vals (ss.map vO) us->us.length=ss.length/\∀(i:Nat) v,us[i]?=some v->∃x,ss[i]?=some x/\fk x v=true
 | [],us,h=>by
  cases h;exact⟨rfl,fun i v e=>by simp at e⟩
 | x::ss,us,h=>by
  cases h with
  | cons r h=>
   obtain⟨h1,h2⟩:=wc h;refine⟨by simp[h1],fun i v e=>?_⟩;cases i with
   | zero=>
    simp only[List.getElem?_cons_zero,aV] at e;subst e;refine⟨x,rfl,?_⟩;cases x with
    | none=>cases r;rfl
    | some x=>obtain⟨t,rfl⟩:=r;simp[fk]
   | succ i=>exact h2 i v (by simpa using e)
section
variable {prog:Program} {w:World} {A:Around} {E:Value->Shared->Prop} {s:Shared} {a o:Addr} {es eo:Array (Int×Value)} {ep mw:Nat} {t to:SetTable}
theorem Gg{Q:Value->Shared->Prop}(Ct:a≠o)(S:SO.bg prog w s.heap a es ep t)(O:SO.bg prog w s.heap o eo mw to)(ho:SO.keysOf eo=[none])(nd:(SO.keysOf es).Nodup)(hn:es.size<=15)
  (h:∀h' d bJ eE t',(∀b ob,s.heap.get? b=some ob->h'.get? b=some ob)->L2.bg prog w h' s.heap.objs.size bJ eE t'->(L2.keysOf bJ).Nodup->(∀x,x∈L2.keysOf bJ↔some x∈SO.keysOf es)->Q (.ref s.heap.objs.size) { s with heap:=h',drawn:=d }) :
  wpAny (model prog w) A (binaryOp .Sub (.ref a) (.ref o)) Q E s:=by
 refine wpAny_binaryOp_same (T:="set") S.ty O.ty F.fills_set_sub F.slot_set_sub (wpAny_call_entry F.slot_set_sub S.ty DJ ?_ (F.args_set_sub_2 _ _));show wpAny _ _ (Builtin.Frozenset.slot1 "__sub__" ⟨[.ref a,.ref o],[]⟩ >>= _) _ _ s;refine aa (ab ?_);dsimp only;refine aa ?_;show wpAny _ _ (Builtin.Frozenset.isAnySet (.ref a) >>= fun b=>_) _ _ s;refine aa (SO.gv S.ty ?_);show wpAny _ _ (Builtin.Frozenset.isAnySet (.ref o)) _ _ s;refine SO.gv O.ty ?_;rw[if_neg (by simp)];refine aa (ab (aa (SO.minus Ct S O ho nd hn fun h' d bJ eE t' k1 T n1 n2=>ab ⟨_,rfl,?_⟩)));exact⟨(by intro z;cases z),h h' d bJ eE t' k1 T n1 n2⟩
end
section
variable {X:Cx} {pos:Pos} {e:Expr} {te:TD} {ts:fU} {t:TA}
def Hc(K:PySem.W.Frag)(t:TA):TE:=fun σ H Q=>t σ H fun vs H1=>∃(p:Addr) (ss:List (Option Str)),vs=[.ref p]/\cN K H1 p (ss.map vO)/\ss.length<4000/\(∀l:List (Option Str),l.Nodup->(∀x∈l,x∈ss)->l.length<=15)/\
 ∀l:List Str,l.Nodup->(∀x,x∈l↔some x∈ss)->sortedS l=true->∀q,(∃n,H1 q=none/\H1 n=none/\n≠q)->∀n,H1 n=none->n≠q->Q (.ref q) (upd (upd H1 n (.lst [.non])) q (.lst (l.map V.str)))
theorem IT{p1 p2 p3 p4 p5 p6 c7 ig:Pos}{j}(hc:X.calm=true)(kB:X.mg "sorted"=none)(gV:X.mg "set"=none)(ha:PA X [e] t)(nq:Gl X "sorted":=by rfl)(kR:Gl X "set":=by rfl)
  (he:starEach [e] X.env=(false,eval e X.env)::starEach [] X.env:=by rfl) (uZ:starEach [.List [.Constant .none j p6] p5] X.env=(false,eval (.List [.Constant .none j p6] p5) X.env)::starEach [] X.env:=by rfl)
  (kS:starEach [.BinOp (.Call (.Name "set" p2) [e] [] c7) .Sub (.Call (.Name "set" p4) [.List [.Constant .none j p6] p5] [] ig) p3] X.env=(false,eval (.BinOp (.Call (.Name "set" p2) [e] [] c7) .Sub (.Call (.Name "set" p4) [.List [.Constant .none j p6] p5] [] ig) p3) X.env)::starEach [] X.env:=by rfl) :
  PE X (.Call (.Name "sorted" p1) [.BinOp (.Call (.Name "set" p2) [e] [] c7) .Sub (.Call (.Name "set" p4) [.List [.Constant .none j p6] p5] [] ig) p3] [] pos) (Hc X.K t):=by
 intro pins s σ H Q I h;have big:scanBound=4096:=rfl;refine wpAny_Call_Name_kw (k9 I nq kB boot_sorted ?_ (by decide) (by decide));refine PyProof.Rows.callWith_builtin1 ?_ kS rfl;rw[kS];show wpAny _ _ (spliced ((false,eval (.BinOp (.Call (.Name "set" p2) [e] [] c7) .Sub (.Call (.Name "set" p4) [.List [.Constant .none j p6] p5] [] ig) p3) X.env)::backTo pos (starEach [] X.env))) _ _ s;refine Calls.spliced_cons ?_;refine wpAny_BinOp ?_;refine wpAny_Call_Name_kw (k9 I kR gV uz ?_ (by decide) (by decide));refine PyProof.Rows.callWith_type1 (cf (ha c7 pins s σ H _ I h) fun us s1 bG=>?_) he rfl;obtain⟨vs,H1,I1,r1,q1⟩:=bG;obtain⟨p,ss,rfl,hq,hn,LS,q⟩:=q1;obtain⟨u,rfl,ru⟩:=ie r1;cases ru;obtain⟨its,rv,pl,hz⟩:=I1.list hq;obtain⟨v1,v2⟩:=wc rv;refine SO.iX (I1.ok.hd hc) pl.isList v1.symm v2 (by omega) fun h1 nU es ep tb T Hd yz=>?_
 have I2:Inv X pins σ H1 { s1 with heap:=h1,toks:=nU }:=I1.kept fun b o e=>yz b o (aj e) e
 have Lu:H1 s1.heap.objs.size=none:=I1.bX.fresh (aq _);have CN:=I2.pinned (fp:=[s1.heap.objs.size]) (fun b hb=>by rw[aD.mp hb];exact I1.i9 (aq _) Lu) (fun b hb=>by rw[aD.mp hb];exact⟨_,T.at_,fun v z=>by cases z⟩);have d0:es.size<=15:=by
  have:=LS (SO.keysOf es) Hd.nd fun x hx=>(Hd.mem x).mp hx
  simpa[SO.keysOf] using this
 -- jT other set
 refine wpAny_Call_Name_kw (k9 CN kR gV uz ?_ (by decide) (by decide));have dA:PA X [.List [.Constant .none j p6] p5] _:=mQ (zV (mQ zZ nO)) nO uZ;refine PyProof.Rows.callWith_type1 (cf (dA ig _ _ σ H1 (fun vs H3=>∃n,vs=[.ref n]/\H1 n=none/\H3=upd H1 n (.lst [.non])) CN ⟨by decide,fun n hn=>⟨n,rfl,hn,rfl⟩⟩) fun Mj s3 bG=>?_) uZ rfl;obtain⟨Mi,H3,I3,r3,n,e3,B7,eH⟩:=bG;subst e3 eH;obtain⟨u3,rfl,Kr⟩:=ie r3;cases Kr;obtain⟨KU,lq,KD,Mp⟩:=I3.list (cN.of fq);obtain⟨w1,w2⟩:=wc (ss:=[none]) lq;have L4:=(I3.pin _ (aI _ (aI _ (rC (aD.mpr rfl) T.at_)))).1;have T3:SO.bg X.prog X.w s3.heap s1.heap.objs.size es ep tb:=T.kept fun o e=>by
  have:some o=some _:=e.symm.trans T.at_;rw[L4,this]
 refine SO.iX (I3.ok.hd hc) KD.isList w1.symm w2 (by simp;omega) fun h4 rS eo mw to O Ho Ca=>?_
 have I4:Inv X _ σ (upd H1 n (.lst [.non])) { s3 with heap:=h4,toks:=rS }:=I3.kept fun b o e=>Ca b o (aj e) e
 have T4:SO.bg X.prog X.w h4 s1.heap.objs.size es ep tb:=T3.kept fun o e=>Ca _ o (aj e) e
 have cH:s1.heap.objs.size≠s3.heap.objs.size:=az (aj T3.at_);have kO:SO.keysOf eo=[none]:=by
  have hlen:=Ho.len;have hl:(SO.keysOf eo).length=eo.size:=by simp[SO.keysOf]
  have hm:=(Ho.mem none).mpr (by simp);generalize SO.keysOf eo=l at hl hm;rw[List.length_singleton] at hlen;match l,hm with
  | [x],hm=>rw[aD.mp hm]
  | x::y::r,_=>simp at hl;omega
 refine Gg (s:={ s3 with heap:=h4,toks:=rS }) cH T4 O kO Hd.nd d0 fun h5 d vb MF t5 k5 T5 n5 m5=>?_
 refine Calls.spliced_nil ?_;have Mt:vb.size<=es.size:=by
  have e5:(L2.keysOf vb).length=vb.size:=by simp[L2.keysOf]
  have e6:(SO.keysOf es).length=es.size:=by simp[SO.keysOf]
  have KJ:((L2.keysOf vb).map some).Nodup:=List.Pairwise.map some (fun a b h z=>h (by injection z)) n5;have:=IK KJ (ws:=SO.keysOf es) fun x hx=>by
   obtain⟨y,hy,rfl⟩:=aF.mp hx;exact(m5 y).mp hy
  rw[af] at this;omega
 have I5:Inv X _ σ (upd H1 n (.lst [.non])) { s3 with heap:=h5,drawn:=d,toks:=rS }:=Inv.draw (I4.kept (t':=rS) k5) d;refine Bl (s:={ s3 with heap:=h5,drawn:=d,toks:=rS }) T5 (I1.ok.hd hc) (by omega) fun pp h6 d6 Kd out en rZ hp Lp o9 ye mr sN=>?_
 have qj:rZ.Nodup:=mr.nodup_iff.mpr n5;have hf:upd H1 n (.lst [.non]) pp=none:=I5.bX.fresh hp;have sQ:n≠pp:=fun z=>by rw[z,fq] at hf;cases hf
 have Lv:H1 pp=none:=by rw[cA (Ne.symm sQ)] at hf;exact hf
 refine⟨.ref pp,upd (upd H1 n (.lst [.non])) pp (.lst (rZ.map V.str)),?_,rfl,q rZ qj (fun x=>by rw[mr.mem_iff,m5,Hd.mem]) sN pp ⟨n,Lv,B7,sQ⟩ n B7 sQ⟩;have I6:=Inv.laid (t':=Kd) (Inv.draw I5.eA d6) (h':=h6) (a:=pp) (o:=.lst (rZ.map V.str)) Lp hp ?_
 ·exact I6
 ·have Ms:rZ.length<=15:=by rw[mr.length_eq];simp[L2.keysOf];omega
  refine⟨by rw[af];have:=ur;omega,out.toList,en,uA ye,?_⟩;rw[Array.toArray_toList];exact o9
noncomputable def oD:Option Str->D
 | none=>.non
 | some x=>.str x
def Bg:cI:=fun ds Q=>∃ss:List (Option Str),ds=[.lst (ss.map oD)]/\ss.length<4000/\(∀l:List (Option Str),l.Nodup->(∀x∈l,x∈ss)->l.length<=15)/\
 ∀l:List Str,l.Nodup->(∀x,x∈l↔some x∈ss)->sortedS l=true->Q (.ow (l.map D.str))
theorem A1{K:PySem.W.Frag}{G:Hp}:∀{ss:List (Option Str)} {vs:List V},bc K G vs (ss.map oD)->vs=ss.map vO
 | [],[],_=>rfl
 | x::ss,v::vs,h=>by
  simp only[av,bc] at h;rw[av,A1 h.2];cases x with
  | none=>rw[show v=.non from h.1];rfl
  | some x=>rw[show v=.str x from h.1];rfl
 | [],_::_,h=>by simp only[aW,bc] at h
 | _::_,[],h=>by simp only[av,bc] at h
theorem IS{p1 p2 p3 p4 p5 p6 c7 ig:Pos}{j}(hc:X.calm=true)(kB:X.mg "sorted"=none)(gV:X.mg "set"=none)(ha:iN X [e] ts)(nq:Gl X "sorted":=by rfl)(kR:Gl X "set":=by rfl)
  (he:starEach [e] X.env=(false,eval e X.env)::starEach [] X.env:=by rfl) (uZ:starEach [.List [.Constant .none j p6] p5] X.env=(false,eval (.List [.Constant .none j p6] p5) X.env)::starEach [] X.env:=by rfl)
  (kS:starEach [.BinOp (.Call (.Name "set" p2) [e] [] c7) .Sub (.Call (.Name "set" p4) [.List [.Constant .none j p6] p5] [] ig) p3] X.env=(false,eval (.BinOp (.Call (.Name "set" p2) [e] [] c7) .Sub (.Call (.Name "set" p4) [.List [.Constant .none j p6] p5] [] ig) p3) X.env)::starEach [] X.env:=by rfl) :
  PD X (.Call (.Name "sorted" p1) [.BinOp (.Call (.Name "set" p2) [e] [] c7) .Sub (.Call (.Name "set" p4) [.List [.Constant .none j p6] p5] [] ig) p3] [] pos) (cM Bg ts):=by
 obtain⟨t,pp,q⟩:=ha;refine⟨_,IT hc kB gV pp nq kR he uZ kS,fun ρ σ G0 H0 G H Q P E h k=>q ρ σ G0 H0 G H _ _ E h fun vs H' ds G' x rs hq=>?_⟩;obtain⟨ss,rfl,h1,h2,h3⟩:=hq;obtain⟨v,rfl,rv⟩:=gN rs;simp only[Rep] at rv;obtain⟨a,xs,rfl,h4,h5⟩:=rv;rw[A1 h5] at h4;refine⟨a,ss,rfl,(x.s.c9 h4).sq,h1,h2,fun l nd hm so p hp n hn sQ=>?_⟩;obtain⟨_,Lf,_,_⟩:=hp;have x2:Ext G' H' G' (upd H' n (.lst [.non])):=.own x.s hn;have ym:upd H' n (.lst [.non]) p=none:=by rw[cA (Ne.symm sQ)];exact Lf
 exact nQ (H:=upd H' n (.lst [.non])) x2.s (wJ l) (h3 l nd hm so) (fun v H2 r G2 x3 rr qq=>k v H2 r G2 ((x.trans x2).trans x3) ((rr.dz x2.h).dz x.h) qq) p ym
end
end L2
section
namespace Wc
open PySem L2
noncomputable def e9(l:List Nat):Str:=⟨l.toArray⟩
theorem qU(l:List Nat):(e9 l).cps.toList=l:=by simp[e9]
theorem iS(l:List Nat):(e9 l).length=l.length:=by simp[e9,Str.length]
theorem oC(a b:List Nat):e9 a++e9 b=e9 (a++b):=by
 show(⟨(e9 a).cps++(e9 b).cps⟩:Str)=_;simp[e9]
theorem m6{a b:List Nat}:e9 a=e9 b↔a=b:=by
 constructor
 ·intro h;have:(e9 a).cps.toList=(e9 b).cps.toList:=by rw[h]
  simpa[e9] using this
 ·rintro rfl;rfl
theorem zM(w:Str):e9 w.cps.toList=w:=by cases w;simp[e9]
theorem nZ(c:Nat):(⟨#[c]⟩:Str)=e9 [c]:=rfl
theorem vW{α β:Type}(f:α->β)(l:List α)(i:Int):cQ (l.map f) i=(cQ l i).map f:=by
 unfold cQ;rw[af];cases n8 l.length i with
 | none=>rfl
 | some j=>simp
theorem DI{α β:Type}{f:α->β}{o:Option α}{p:β->Prop}:(∃d,o.map f=some d/\p d)↔∃x,o=some x/\p (f x):=by
 cases o with
 | none=>simp
 | some x=>simp
theorem zL{α β:Type}{f:α->β}{l:List α}{i:Int}{p:β->Prop}:(∃d,cQ (l.map f) i=some d/\p d)↔∃x,cQ l i=some x/\p (f x):=by rw[vW];exact DI
theorem pO{α:Type}{l:List α}{i:Int}(h0:0<=i)(h1:i<l.length):∃h:i.toNat<l.length,cQ l i=some (l[i.toNat]'h):=by
 refine⟨by omega,?_⟩;unfold cQ n8;rw[if_pos h0,if_pos h1];simp only[Option.bind_some];exact ar _
theorem vV{α:Type}{l:List α}{i:Int}(h0:0<=i)(h1:i<l.length):∃z,cQ l i=some z/\z∈l:=by
 obtain⟨h,e⟩:=pO h0 h1;exact⟨_,e,List.getElem_mem h⟩
theorem ua{α:Type}{l:List α}{n:Nat}(i:Int)(hl:n<=l.length)(h:0<n):∃z,cQ l (i%(n:Int))=some z/\z∈l:=
 vV (aP _ (by omega)) (by have:=aN i (show(0:Int)<n by omega);omega)
theorem CH{α:Type}{l:List α}(i:Int)(hl:l.length=8):∃z,cQ l (i%8)=some z/\z∈l:=ua (n:=8) i (by omega) (by omega)
theorem yZ{α:Type}{l:List α}(i:Int)(hl:l.length=8):∃z,cQ l (i%5)=some z/\z∈l:=ua (n:=5) i (by omega) (by omega)
theorem ve{α:Type}{l:List α}(i:Int)(hl:l.length=8):∃z,cQ l (i%3)=some z/\z∈l:=ua (n:=3) i (by omega) (by omega)
theorem kn{α:Type}{l:List α}{j:Nat}(h:j<l.length):cQ l (j:Int)=some l[j]:=by
 obtain⟨h',e⟩:=pO (l:=l) (i:=(j:Int)) (by omega) (by omega);simpa using e
theorem ud{n d:Nat}{j:Int}(h:0<=j):HT.cg n d (some j)=min j.toNat n:=by show(if j<0 then _ else _)=_;rw[if_neg (by omega)]
theorem uc{α:Type}(l:List α){j:Int}(h:0<=j):gf l none (some j)=l.take j.toNat:=by
 unfold gf;rw[ud h];show((l.drop 0).take (min j.toNat l.length-0))=_;rw[List.drop_zero,Nat.sub_zero,Nat.min_comm];by_cases hl:l.length<=j.toNat
 ·rw[Nat.min_eq_left hl,List.take_of_length_le hl,List.take_of_length_le (aq _)]
 ·rw[Nat.min_eq_right (by omega)]
theorem uy{α:Type}(l:List α){j:Int}(h:0<=j):gf l (some j) none=l.drop j.toNat:=by
 unfold gf;rw[ud h];show((l.drop (min j.toNat l.length)).take (l.length-_))=_;by_cases hl:l.length<=j.toNat
 ·rw[Nat.min_eq_right hl,List.drop_of_length_le hl,List.drop_of_length_le (aq _)];simp
 ·rw[Nat.min_eq_left (by omega),List.take_of_length_le (by simp)]
theorem Gf{α:Type}(l:List α){i j:Int}(hi:0<=i)(h:0<=j):gf l (some i) (some j)=(l.drop i.toNat).take (j.toNat-i.toNat):=by
 unfold gf;rw[ud h,ud hi];by_cases hl:l.length<=i.toNat
 ·rw[Nat.min_eq_right hl,List.drop_of_length_le hl,List.drop_of_length_le (aq _)];simp
 ·rw[Nat.min_eq_left (a:=i.toNat) (by omega)];by_cases hj:l.length<=j.toNat
  ·rw[Nat.min_eq_right hj,List.take_of_length_le (by simp),List.take_of_length_le (by simp;omega)]
  ·rw[Nat.min_eq_left (by omega)]
theorem qT(l:List Nat){j:Int}(h:0<=j):kX (e9 l) none (some j)=e9 (l.take j.toNat):=by unfold kX;rw[qU,uc _ h];rfl
theorem Hb(l:List Nat){j:Int}(h:0<=j):kX (e9 l) (some j) none=e9 (l.drop j.toNat):=by unfold kX;rw[qU,uy _ h];rfl
theorem Ge(l:List Nat){i j:Int}(hi:0<=i)(h:0<=j):kX (e9 l) (some i) (some j)=e9 ((l.drop i.toNat).take (j.toNat-i.toNat)):=by unfold kX;rw[qU,Gf _ hi h];rfl
theorem Gd{α β:Type}(f:α->β)(l:List α)(lo hi:Option Int):gf (l.map f) lo hi=(gf l lo hi).map f:=by unfold gf;rw[af,List.map_take,List.map_drop]
theorem qS(n:Nat)(i:Int):bQ n (.int i)=True:=by cases n<;>exact eq_true trivial
theorem pM(n:Nat)(i:Str):bQ n (.str i)=True:=by cases n<;>exact eq_true trivial
theorem DH(n:Nat)(i:Bool):bQ n (.bl i)=True:=by cases n<;>exact eq_true trivial
theorem Ag(n:Nat):bQ n .non=True:=by cases n<;>exact eq_true trivial
theorem pQ{α:Type}[BEq α][LawfulBEq α][DecidableEq α](a b:α):(a==b)=decide (a=b):=by rw[Bool.eq_iff_iff];simp
theorem Af(a b:Str):bz (.str a) (.str b)=decide (a=b):=by simp only[bz,pQ]
theorem Eo(a b:Int):bz (.int a) (.int b)=decide (a=b):=by simp only[bz,pQ]
theorem gP:sizeLine=16777216:=by decide
@[irreducible] def nF(u:TX)(D:DE):Ev->Prop:=u D
theorem DG(t u:TX)(D:DE)(ρ:Ev):bH t u D ρ=t { nx:=nF u D,rt:=D.rt,bk:=D.bk,ct:=D.ct } ρ:=by unfold nF;rfl
end Wc
open PySem L2 Wc
local macro_rules | `(tactic| walk_at "b")=>`(tactic| simp only[DG,dU,kd,mE,lS,bZ,dC,k7,pJ,C4,C3,cM,bh,bx,a9,av,aW,List.cons_append,List.nil_append,List.set,gt,gX,jW,oI,bj,cR,dr,eh,kb,cv,ff,g7,gH,mD,bW,gh,de,g6,tN,iF,oEq,ly,b9,iM,jt,hJ,dy,vv,Dx,oy,qu,qF,pD,dM,t6,iE,nJ,qD,qC,hX,fP,mF,oz,gY,fh,vP,kh,tS,pC,tO,kg,DN,DM,KH,KG,gi,fN,Int.reduceLT,Int.reduceLE,Int.reduceAdd,Int.reduceSub,Int.reduceMul,Int.reduceNeg,Int.reducePow,Int.reduceToNat,decide_true,decide_false,true_and,and_true,and_self,or_true,true_or,qS,pM,DH,Ag,zL,ay,aU,aY,Bool.not_true,ag,aw,aT,Nat.reduceAdd,decide_eq_true_eq,Eo,Af,Gd,pY,rK,pI])
local macro_rules | `(tactic| walk_at "all")=>`(tactic| ((try walk_at "px");repeat(simp only[nF];try walk_at "px")))
local macro_rules | `(tactic| walk_at "px")=>`(tactic| walk_at "b")
local macro_rules | `(tactic| walk_at "go")=>`(tactic| (simp only[nF];walk_at "px"))
namespace Wc
open PySem L2
noncomputable def ox(c k:Int):Int:=(c%1000000000000000000000000000000*(k*k+48271)+7919*k*k*k+11)%2147483647/7
theorem DF(c k:Int):0<=ox c k:=Int.ediv_nonneg (aP _ (by decide)) (by decide)
def mf:cI:=fun ds Q=>∃c k:Int,ds=[.int c,.int k]/\0<=k/\k<=1000000/\Q (.fz (.int (ox c k)))
def xa:TX:=(dr (bj (oI gi fun i j=>.int (i/j)) (bj (oI (fun _ j=>0<j) fun i j=>.int (i%j)) (bj cR (bj cR (bj (oI fN fun i j=>.int (i*j)) (bj (oI (fun _ j=>0<j) fun i j=>.int (i%j)) (a9 0) (bj (oI l3 fun i j=>.int (i ^ j.toNat)) (dC (.int 10)) (dC (.int 30)))) (bj cR (bj (oI fN fun i j=>.int (i*j)) (a9 1) (a9 1)) (dC (.int 48271)))) (bj (oI fN fun i j=>.int (i*j)) (bj (oI fN fun i j=>.int (i*j)) (bj (oI fN fun i j=>.int (i*j)) (dC (.int 7919)) (a9 1)) (a9 1)) (a9 1))) (dC (.int 11))) (dC (.int 2147483647))) (dC (.int 7))))
theorem Jj(ds:List D)(Qr:R->Prop)(hl:ds.length=2)(h:mf ds Qr):xa { nx:=fun _=>Qr (.fz .non),rt:=Qr } (eW ["_law_cell","_law_k"] ds):=by
 obtain⟨c,k,rfl,h0,h1,q⟩:=h;show xa _ [.fz (.int c),.fz (.int k)];unfold xa;walk_at "all";have hk:k*k<=1000000*1000000:=Int.mul_le_mul h1 h1 h0 (by decide);have Mu:0<=k*k:=Int.mul_nonneg h0 h0;refine⟨.inl ⟨by omega,by omega⟩,.inr ⟨by omega,by omega⟩,.inr ⟨by omega,by omega⟩,.inr ⟨by omega,by omega⟩,?_⟩;exact q
end Wc
namespace Wc
open PySem L2 PyProof.Rows
noncomputable def dO:Option Str->D
 | none=>.non
 | some s=>.str s
noncomputable def dP(l:List (Option Str)):D:=.lst (l.map dO)
noncomputable def dS(l:List Str):D:=.lst (l.map .str)
noncomputable def dI(l:List Int):D:=.lst (l.map .int)
noncomputable def mx(p:Str×Int):D:=.tup [.str p.1,.int p.2]
noncomputable def j6(p:Int×Str):D:=.tup [.int p.1,.str p.2]
noncomputable def nu(p:Int×Int×Int):D:=.tup [.int p.1,.int p.2.1,.int p.2.2]
noncomputable def dW(l:List (Str×Int)):D:=.lst (l.map mx)
noncomputable def dB(l:List (Int×Str)):D:=.lst (l.map j6)
noncomputable def dK(l:List (Int×Int×Int)):D:=.lst (l.map nu)
structure bE where
 top:List (Option Str)
 aZ:List (Option Str)
 left:List Str
 right:List Str
 wide:List (Str×Int)
 bB:List (Int×Str)
 keeps:List (Int×Int×Int)
noncomputable def bE.parts(c:bE):List D:=[dP c.top,dP c.aZ,dS c.left,dS c.right,dW c.wide,dB c.bB,dK c.keeps]
noncomputable def bE.obj(c:bE):D:=.obj "Channel" [("top",dP c.top),("bottom",dP c.aZ),("left",dS c.left),("right",dS c.right),("wide",dW c.wide),("bends",dB c.bB),("keeps",dK c.keeps)]
theorem k6(n:Nat)(o:Option Str):bQ n (dO o)=True:=by
 cases o with
 | none=>exact Ag n
 | some s=>exact pM n s
theorem oA(a b:Option Str):bz (dO a) (dO b)=decide (a=b):=by
 cases a<;>cases b<;>simp only[dO,bz,pQ,aV,reduceCtorEq,decide_true,decide_false]
theorem mS(a:Option Str)(b:Str):bz (dO a) (.str b)=decide (a=some b):=oA a (some b)
theorem rJ(a:Str)(b:Option Str):bz (.str a) (dO b)=decide (some a=b):=oA (some a) b
theorem qI(w:Str)(l:List Str):inD (.str w) (l.map .str)=decide (w∈l):=by
 unfold inD;rw[List.any_map];induction l with
 | nil=>rfl
 | cons a r ih=>
  rw[List.any_cons,ih,Function.comp_apply,Af];by_cases h:a=w
  ·subst h;simp
  ·simp[h,Ne.symm h]
theorem zu(w:Str)(l:List (Option Str)):inD (.str w) (l.map dO)=decide (some w∈l):=by
 unfold inD;rw[List.any_map];induction l with
 | nil=>rfl
 | cons a r ih=>
  rw[List.any_cons,ih,Function.comp_apply,mS];by_cases h:a=some w
  ·subst h;simp
  ·simp[h,Ne.symm h]
theorem nR(n:Nat)(l:List Str):∀e∈l.map D.str,bQ n e:=by
 intro e he;rw[aF] at he;obtain⟨x,_,rfl⟩:=he;rw[pM];trivial
theorem uo(n:Nat)(l:List (Option Str)):∀e∈l.map dO,bQ n e:=by
 intro e he;rw[aF] at he;obtain⟨x,_,rfl⟩:=he;rw[k6];trivial
def dN(ws:List Str)(l:List (Option Str)):Prop:=∀w,some w∈l->w∈ws
theorem Ha{α:Type}{wi:jc}{g:fT}{tb:TX}{D:DE}{ρ:Ev}(L:List α)(φ:α->L2.D)(hw:∀Q':List L2.D->Prop,Q' (kK (L.map φ))->wi ρ Q')(Iv:Nat->Ev->Prop)(h0:Iv 0 ρ)
  (turn:∀(i:Nat) x ρ',L[i]?=some x->Iv i ρ'->g (.tup [.int i,φ x]) ρ' fun dw=>tb { D with nx:=Iv (i+1),ct:=Iv (i+1),bk:=D.nx } dw) (fin:∀ρ',Iv L.length ρ'->D.nx ρ'):gZ wi g tb D ρ:=by
 refine AG (kK (L.map φ)) hw Iv h0 (fun i d ρ' hd iv=>?_) (fun ρ' iv=>fin ρ' (by simpa[kK] using iv));unfold kK at hd;rw[List.getElem?_mapIdx,aK] at hd;cases hx:L[i]? with
 | none=>rw[hx] at hd;cases hd
 | some x=>rw[hx] at hd;cases hd;exact turn i x ρ' hx iv
theorem wW:∀{a b c:List Nat},Spec.ltCps a b=true->Spec.ltCps b c=true->Spec.ltCps a c=true
 | [],[],c,h,_=>by simp[Spec.ltCps] at h
 | [],b::bs,[],_,h=>by simp[Spec.ltCps] at h
 | [],b::bs,c::cs,_,_=>by simp[Spec.ltCps]
 | a::as,[],c,h,_=>by simp[Spec.ltCps] at h
 | a::as,b::bs,[],_,h=>by simp[Spec.ltCps] at h
 | a::as,b::bs,c::cs,h,h'=>by
  simp only[Spec.ltCps,Bool.or_eq_true,decide_eq_true_eq,Bool.and_eq_true,beq_iff_eq] at h h' ⊢;rcases h with h | ⟨rfl,h⟩
  ·rcases h' with h' | ⟨rfl,h'⟩
   ·left;omega
   ·left;omega
  ·rcases h' with h' | ⟨rfl,h'⟩
   ·left;omega
   ·right;exact⟨rfl,wW h h'⟩
theorem um:∀{a b:List Nat},Spec.ltCps a b=false->Spec.ltCps b a=false->a=b
 | [],[],_,_=>rfl
 | [],b::bs,h,_=>by simp[Spec.ltCps] at h
 | a::as,[],_,h=>by simp[Spec.ltCps] at h
 | a::as,b::bs,h,h'=>by
  simp only[Spec.ltCps,Bool.or_eq_false_iff,decide_eq_false_iff_not,Bool.and_eq_false_iff,beq_eq_false_iff_ne] at h h';have e:a=b:=by omega
  subst e;rw[um (h.2.resolve_left fun z=>z rfl) (h'.2.resolve_left fun z=>z rfl)]
theorem vU:∀(a:List Nat),Spec.ltCps a a=false
 | []=>rfl
 | a::as=>by simp[Spec.ltCps,vU as]
def jC(a b:Str):Prop:=Spec.ltCps a.cps.toList b.cps.toList=true
theorem G9{a b c:Str}(h:jC a b)(h':jC b c):jC a c:=wW h h'
theorem Ae{a b:Str}(h:a.cps.toList=b.cps.toList):a=b:=by rw[<-zM a,<-zM b,h]
theorem Bf:∀{p:Str} {l:List Str},risingS p l=true->(p::l).Nodup->(p::l).Pairwise jC
 | p,[],_,_=>by simp
 | p,x::r,h,nd=>by
  simp only[risingS,Bool.and_eq_true,Bool.not_eq_true'] at h;have Mo:=nd;rw[aX] at nd;have ih:=Bf h.2 nd.2;have cH:p≠x:=fun z=>nd.1 (by simp[z])
  have B6:jC p x:=by
   unfold jC;cases e:Spec.ltCps p.cps.toList x.cps.toList with
   | true=>rfl
   | false=>exact absurd (Ae (um e h.1)) cH
  rw[List.pairwise_cons];refine⟨fun b hb=>?_,ih⟩;rcases ai.mp hb with rfl | hb
  ·exact B6
  ·exact G9 B6 ((List.pairwise_cons.mp ih).1 b hb)
theorem wV{l:List Str}(h:sortedS l=true)(nd:l.Nodup):l.Pairwise jC:=by
 cases l with
 | nil=>exact .nil
 | cons x r=>exact Bf h nd
def vz(g:fT)(tb:TX)(D:DE)(ρ:Ev)(ds:List L2.D):Prop:=∃Iv:Nat->Ev->Prop,Iv 0 ρ/\
 (∀i d ρ',ds[i]?=some d->Iv i ρ'->g d ρ' fun dw=>tb { D with nx:=Iv (i+1),ct:=Iv (i+1),bk:=D.nx } dw)/\∀ρ',Iv ds.length ρ'->D.nx ρ'
theorem A0{wi:jc}{g:fT}{tb:TX}{D:DE}{ρ:Ev}(P:List L2.D->Prop)(hw:∀Q':List L2.D->Prop,(∀ds,P ds->Q' ds)->wi ρ Q')(h:∀ds,P ds->vz g tb D ρ ds):gZ wi g tb D ρ:=hw _ h
theorem HC{α:Type}{g:fT}{tb:TX}{D:DE}{ρ:Ev}(L:List α)(φ:α->L2.D)(Iv:Nat->Ev->Prop)(h0:Iv 0 ρ)
  (turn:∀i x ρ',L[i]?=some x->Iv i ρ'->g (φ x) ρ' fun dw=>tb { D with nx:=Iv (i+1),ct:=Iv (i+1),bk:=D.nx } dw) (fin:∀ρ',Iv L.length ρ'->D.nx ρ'):vz g tb D ρ (L.map φ):=by
 refine⟨Iv,h0,fun i d ρ' hd iv=>?_,fun ρ' iv=>fin ρ' (by simpa using iv)⟩;rw[aK] at hd;cases hx:L[i]? with
 | none=>rw[hx] at hd;cases hd
 | some x=>rw[hx] at hd;cases hd;exact turn i x ρ' hx iv
theorem HB{α:Type}{g:fT}{tb:TX}{D:DE}{ρ:Ev}(L:List α)(φ:α->L2.D)(Iv:Nat->Ev->Prop)(h0:Iv 0 ρ)
  (turn:∀(i:Nat) x ρ',L[i]?=some x->Iv i ρ'->g (.tup [.int i,φ x]) ρ' fun dw=>tb { D with nx:=Iv (i+1),ct:=Iv (i+1),bk:=D.nx } dw) (fin:∀ρ',Iv L.length ρ'->D.nx ρ'):vz g tb D ρ (kK (L.map φ)):=by
 refine⟨Iv,h0,fun i d ρ' hd iv=>?_,fun ρ' iv=>fin ρ' (by simpa[kK] using iv)⟩;unfold kK at hd;rw[List.getElem?_mapIdx,aK] at hd;cases hx:L[i]? with
 | none=>rw[hx] at hd;cases hd
 | some x=>rw[hx] at hd;cases hd;exact turn i x ρ' hx iv
theorem G8(n:Nat)(p:Str×Int):bQ (n+1) (mx p):=by
 intro d hd;simp only[ai,aB,or_false] at hd;rcases hd with rfl | rfl
 ·rw[pM];trivial
 ·rw[qS];trivial
theorem G7(n:Nat)(p:Int×Str):bQ (n+1) (j6 p):=by
 intro d hd;simp only[ai,aB,or_false] at hd;rcases hd with rfl | rfl
 ·rw[qS];trivial
 ·rw[pM];trivial
theorem Gb(n:Nat)(p:Int×Int×Int):bQ (n+1) (nu p):=by
 intro d hd;simp only[ai,aB,or_false] at hd;rcases hd with rfl | rfl | rfl<;>(rw[qS];trivial)
theorem pP{n:Nat}{α:Type}(f:α->D)(l:List α)(h:∀x∈l,bQ n (f x)):bQ (n+1) (.lst (l.map f)):=by
 intro d hd;rw[aF] at hd;obtain⟨x,hx,rfl⟩:=hd;exact h x hx
theorem zK(n:Nat)(l:List (Option Str)):bQ (n+1) (dP l):=pP dO l fun x _=>by rw[k6];trivial
theorem zJ(n:Nat)(l:List Str):bQ (n+1) (dS l):=pP D.str l fun x _=>by rw[pM];trivial
theorem GZ(c:bE):bQ 3 (.lst c.parts):=by
 intro d hd;simp only[bE.parts,ai,aB,or_false] at hd;rcases hd with rfl | rfl | rfl | rfl | rfl | rfl | rfl
 ·exact zK 1 _
 ·exact zK 1 _
 ·exact zJ 1 _
 ·exact zJ 1 _
 ·exact pP mx _ fun x _=>G8 0 x
 ·exact pP j6 _ fun x _=>G7 0 x
 ·exact pP nu _ fun x _=>Gb 0 x
theorem vM(l:List D):mB (jr (.tup l)) "tuple"=true:=by show mB "tuple" "tuple"=true;decide
theorem zI(l:List D):mB (jr (.lst l)) "list"=true:=by show mB "list" "list"=true;decide
noncomputable def qm(ns:List Int):Int:=(ns.take 1).sum
theorem Ga{α:Type}(l:List α)(h:l≠[]):cQ l (-1)=some (l.getLast h):=by
 have hl:0<l.length:=List.length_pos_iff.mpr h;unfold cQ n8;rw[if_neg (by decide),if_pos (by omega)];simp only[Option.bind_some];rw[List.getLast_eq_getElem,show(-1+(l.length:Int)).toNat=l.length-1 by omega];exact ar _
theorem zt(o:OV):(R.ov o).sl=.ov o:=rfl
theorem zH(o:OV):(R.ov o).val=o.val:=rfl
end Wc
namespace Wc
open PySem L2
noncomputable def fX:Nat->Int->List Nat
 | 0,_=>[]
 | n+1,c=>(97+(c%26).toNat)::fX n (c/26)
theorem Be(n:Nat)(c:Int):(fX n c).length=n:=by
 induction n generalizing c with
 | zero=>rfl
 | succ n ih=>simp[fX,ih]
theorem AZ(n:Nat)(c:Int):∀x∈fX n c,97<=x/\x<=122:=by
 induction n generalizing c with
 | zero=>intro x hx;cases hx
 | succ n ih=>
  intro x hx;rcases ai.mp hx with rfl | h
  ·have h0:=aP c (show(26:Int)≠0 by decide);have h1:=aN c (show(0:Int)<26 by decide);omega
  ·exact ih _ x h
noncomputable def vf:Str:="abcdefghijklmnopqrstuvwxyz"
theorem DD:∀k:Fin 26,cQ vf.cps.toList (k.val:Int)=some (97+k.val):=by decide +kernel
theorem Em(c:Int):cQ vf.cps.toList (c%26)=some (97+(c%26).toNat):=by
 have h0:=aP c (show(26:Int)≠0 by decide);have h1:=aN c (show(0:Int)<26 by decide);have:=DD ⟨(c%26).toNat,by omega⟩;simp only at this;rwa [Int.toNat_of_nonneg h0] at this
def rm:cI:=fun ds Q=>∃(c:Int) (n:Nat),ds=[.int c,.int n]/\n<=1000/\Q (.fz (.str (e9 (fX n c))))
def xo:TX:=(bH (cv 2 (dC (.str "abcdefghijklmnopqrstuvwxyz")))
 (bH (cv 3 (dC (.str "")))
 (bH (gZ (kh (bh (a9 1) bx)) (bW 4) (bH (cv 3 (bj cR (a9 3) (bj b9 (a9 2) (bj (oI (fun _ j=>0<j) fun i j=>.int (i%j)) (a9 0) (dC (.int 26))))))
 (cv 0 (bj (oI gi fun i j=>.int (i/j)) (a9 0) (dC (.int 26))))))
 (dr (a9 3)))))
theorem JI(ds:List D)(Qr:R->Prop)(hl:ds.length=2)(h:rm ds Qr):xo { nx:=fun _=>Qr (.fz .non),rt:=Qr } (eW ["_law_cell","_law_size","_law_signs","_law_stem_here","_law_k"] ds):=by
 obtain⟨c,n,rfl,hn,q⟩:=h;show xo _ [.fz (.int c),.fz (.int n),.un,.un,.un];unfold xo;walk_at "all";refine p7 n (fun Q' h=>?_) (fun i ρ=>∃(c':Int) (acc:List Nat) (k:Sl),ρ=[.fz (.int c'),.fz (.int n),.fz (.str vf),.fz (.str (e9 acc)),k]/\acc.length=i/\acc++fX (n-i) c'=fX n c) ⟨_,[],_,rfl,rfl,rfl⟩ ?_ ?_
 ·walk_at "all";exact⟨by omega,by omega,by simpa using h⟩
 ·rintro i ρ hi ⟨c',acc,k,rfl,Cu,he⟩;walk_at "all";refine⟨by decide,_,Em c',?_,_,acc++[97+(c'%26).toNat],_,by rw[nZ,oC],by simp[Cu],?_⟩
  ·rw[iS,nZ,iS,gP];simp;omega
  ·rw[<-he,show n-i=(n-(i+1))+1 by omega,fX];simp
 ·rintro ρ ⟨c',acc,k,rfl,Cu,he⟩;walk_at "all";rw[Nat.sub_self] at he;simp only[fX,List.append_nil] at he;rw[he];exact q
end Wc
namespace Wc
open PySem L2
noncomputable def pL(c:Int):List (List Nat):=
 if c/64%3=0 then [104,103,102,101,100,99,98,97].map fun s=>(fX 6 (c/512)).take (c/8%(c%6+1)).toNat++[s]++((fX 6 (c/512)).drop (c/8%(c%6+1)).toNat).take ((c%6).toNat-(c/8%(c%6+1)).toNat)
 else if c/64%3=1 then(List.range 8).map fun k=>(fX 6 (c/512)).take (c%6%4).toNat++[if k/4=0 then 109 else 116]++[if k/2%2=0 then 110 else 117]++[if k%2=0 then 111 else 118]
 else(List.range 6).map (fun k=>(fX 6 (c/512)).take (k+1))++[([if (fX 6 (c/512)).headD 0=97 then 98 else 97]++(fX 6 (c/512)).drop 1).take 1,([if (fX 6 (c/512)).headD 0=97 then 98 else 97]++(fX 6 (c/512)).drop 1).take 3]
noncomputable def vy(i:Int):Int:=(i%1000000000000000000000000+5)*7046029254386353131%1000000000000000000000007
noncomputable def l7(i:Int):List Str:=(pL (vy i)).map e9
structure Words (ws:List Str):Prop where
 len:ws.length=8
 sz:∀w∈ws,1<=w.length/\w.length<=6
 vf:∀w∈ws,∀x∈w.cps.toList,97<=x/\x<=122
 nd:ws.Nodup
theorem zB(x:Int):∃a b c d e f:Nat,fX 6 x=[a,b,c,d,e,f]/\(97<=a/\a<=122)/\(97<=b/\b<=122)/\(97<=c/\c<=122)/\(97<=d/\d<=122)/\(97<=e/\e<=122)/\(97<=f/\f<=122):=by
 have h:=AZ 6 x;simp only[fX,ai,aB,or_false,forall_eq_or_imp,forall_eq] at h;exact⟨_,_,_,_,_,_,by simp only[fX],h.1,h.2.1,h.2.2.1,h.2.2.2.1,h.2.2.2.2.1,h.2.2.2.2.2⟩
theorem F9{l:List (List Nat)}(h:l.Nodup):(l.map e9).Nodup:=by
 unfold List.Nodup at *;rw[List.pairwise_map];exact h.imp fun iK e=>iK (m6.mp e)
theorem GY(c:Int):(pL c).length=8/\(∀w∈pL c,(1<=w.length/\w.length<=6)/\∀x∈w,97<=x/\x<=122)/\(pL c).Nodup:=by
 have gJ:=AZ 6 (c/512);have yt:=Be 6 (c/512);have s0:0<=c%6:=aP _ (by decide);have s1:c%6<6:=aN _ (by decide);unfold pL;by_cases h0:c/64%3=0
 ·rw[if_pos h0];have t0:0<=c/8%(c%6+1):=aP _ (by omega);have t1:c/8%(c%6+1)<c%6+1:=aN _ (by omega);generalize c/8%(c%6+1)=at' at *;generalize fX 6 (c/512)=st at *;refine⟨rfl,fun w hw=>?_,?_⟩
  ·rw[aF] at hw;obtain⟨s,hs,rfl⟩:=hw;have qg:97<=s/\s<=122:=by
    simp only[ai,aB,or_false] at hs;omega
   refine⟨?_,fun x hx=>?_⟩
   ·simp only[au,aL,List.length_drop,aw,aT,yt];omega
   ·simp only[aA,aD] at hx;rcases hx with(hx | rfl) | hx
    ·exact gJ x (List.mem_of_mem_take hx)
    ·exact qg
    ·exact gJ x (List.mem_of_mem_drop (List.mem_of_mem_take hx))
  ·simp[List.append_assoc]
 ·rw[if_neg h0];by_cases h1:c/64%3=1
  ·rw[if_pos h1];have u0:0<=c%6%4:=aP _ (by decide);have u1:c%6%4<4:=aN _ (by decide);generalize c%6%4=m at *;generalize fX 6 (c/512)=st at *;refine⟨by simp,fun w hw=>?_,?_⟩
   ·rw[aF] at hw;obtain⟨s,hs,rfl⟩:=hw;refine⟨?_,fun x hx=>?_⟩
    ·simp only[au,aL,List.length_drop,aw,aT,yt];omega
    ·simp only[aA,aD] at hx;rcases hx with((hx | rfl) | rfl) | rfl
     ·exact gJ x (List.mem_of_mem_take hx)
     ·split<;>omega
     ·split<;>omega
     ·split<;>omega
   ·simp[List.range,List.range.loop,List.append_assoc]
  ·rw[if_neg h1];obtain⟨a,b,c',d,e,f,hs,ha,hb,hc,hd,he,hf⟩:=zB (c/512);rw[hs];have ho:97<=(if a=97 then 98 else 97)/\(if a=97 then 98 else 97)<=122/\(if a=97 then 98 else 97)≠a:=by split<;>omega
   generalize (if a=97 then 98 else 97)=o at ho;refine⟨by simp,?_,?_⟩
   ·intro w hw;simp[List.range,List.range.loop] at hw;rcases hw with rfl | rfl | rfl | rfl | rfl | rfl | rfl | rfl<;>(refine⟨by simp,fun x hx=>?_⟩)<;>simp at hx<;>(try split at hx)<;>omega
   ·have:¬a=o:=fun z=>ho.2.2 z.symm
    simp[List.range,List.range.loop];split<;>omega
theorem Bd(i:Int):Words (l7 i):=by
 obtain⟨h1,h2,h3⟩:=GY (vy i);refine⟨by simp[l7,h1],fun w hw=>?_,fun w hw=>?_,F9 h3⟩
 ·unfold l7 at hw;rw[aF] at hw;obtain⟨l,hl,rfl⟩:=hw;rw[iS];exact(h2 l hl).1
 ·unfold l7 at hw;rw[aF] at hw;obtain⟨l,hl,rfl⟩:=hw;rw[qU];exact(h2 l hl).2
def rz:cI:=fun ds Q=>∃i:Int,ds=[.int i]/\Q (.ow ((l7 i).map .str))
def xf:TX:=(bH (cv 0 (bj (oI (fun _ j=>0<j) fun i j=>.int (i%j)) (bj (oI fN fun i j=>.int (i*j)) (bj cR (bj (oI (fun _ j=>0<j) fun i j=>.int (i%j)) (a9 0) (bj (oI l3 fun i j=>.int (i ^ j.toNat)) (dC (.int 10)) (dC (.int 24)))) (dC (.int 5))) (dC (.int 7046029254386353131))) (bj cR (bj (oI l3 fun i j=>.int (i ^ j.toNat)) (dC (.int 10)) (dC (.int 24))) (dC (.int 7)))))
 (bH (cv 1 (bj (oI (fun _ j=>0<j) fun i j=>.int (i%j)) (a9 0) (dC (.int 6))))
 (bH (cv 2 (dy 2 rm (bh (bj (oI gi fun i j=>.int (i/j)) (a9 0) (dC (.int 512))) (bh (dC (.int 6)) bx))))
 (bH (cv 3 (bj (oI (fun _ j=>0<j) fun i j=>.int (i%j)) (bj (oI gi fun i j=>.int (i/j)) (a9 0) (dC (.int 8))) (bj cR (a9 1) (dC (.int 1)))))
 (bH (dU (bZ (bj oEq (bj (oI (fun _ j=>0<j) fun i j=>.int (i%j)) (bj (oI gi fun i j=>.int (i/j)) (a9 0) (dC (.int 64))) (dC (.int 3))) (dC (.int 0)))) (dr (et (fh (dC (.str "hgfedcba"))) [none,some 2,some 3,some 1] (bW 0) gY (bj cR (bj cR (iM (a9 1) jt (hJ (a9 2))) (a9 0)) (iM (a9 1) (hJ (a9 2)) (hJ (a9 3)))))) eh)
 (bH (dU (bZ (bj oEq (bj (oI (fun _ j=>0<j) fun i j=>.int (i%j)) (bj (oI gi fun i j=>.int (i/j)) (a9 0) (dC (.int 64))) (dC (.int 3))) (dC (.int 1)))) (dr (et (kh (bh (dC (.int 8)) bx)) [none,some 2,some 1] (bW 0) gY (bj cR (bj cR (bj cR (iM (a9 1) jt (hJ (bj (oI (fun _ j=>0<j) fun i j=>.int (i%j)) (a9 2) (dC (.int 4))))) (bj b9 (dC (.str "mt")) (bj (oI gi fun i j=>.int (i/j)) (a9 0) (dC (.int 4))))) (bj b9 (dC (.str "nu")) (bj (oI (fun _ j=>0<j) fun i j=>.int (i%j)) (bj (oI gi fun i j=>.int (i/j)) (a9 0) (dC (.int 2))) (dC (.int 2))))) (bj b9 (dC (.str "ov")) (bj (oI (fun _ j=>0<j) fun i j=>.int (i%j)) (a9 0) (dC (.int 2))))))) eh)
 (bH (cv 4 (bj cR (bj b9 (dC (.str "ab")) (cM tO (bh (bj oEq (bj b9 (a9 2) (dC (.int 0))) (dC (.str "a"))) bx))) (iM (a9 2) (hJ (dC (.int 1))) jt)))
 (dr (bj cR (et (kh (bh (dC (.int 6)) bx)) [none,some 2] (bW 0) gY (iM (a9 1) jt (hJ (bj cR (a9 0) (dC (.int 1)))))) (ff (bh (iM (a9 4) jt (hJ (dC (.int 1)))) (bh (iM (a9 4) jt (hJ (dC (.int 3)))) bx))))))))))))
theorem D6:(Str.ofString "hgfedcba").cps.toList=[104,103,102,101,100,99,98,97]:=by decide +kernel
theorem CZ(k:Nat)(h:k<8):cQ (Str.ofString "mt").cps.toList ((k:Int)/4)=some (if k/4=0 then 109 else 116):=by
 have:∀k:Fin 8,cQ (Str.ofString "mt").cps.toList ((k.val:Int)/4)=some (if k.val/4=0 then 109 else 116):=by decide +kernel
 exact this ⟨k,h⟩
theorem CY(k:Nat)(h:k<8):cQ (Str.ofString "nu").cps.toList ((k:Int)/2%2)=some (if k/2%2=0 then 110 else 117):=by
 have:∀k:Fin 8,cQ (Str.ofString "nu").cps.toList ((k.val:Int)/2%2)=some (if k.val/2%2=0 then 110 else 117):=by decide +kernel
 exact this ⟨k,h⟩
theorem CW(k:Nat)(h:k<8):cQ (Str.ofString "ov").cps.toList ((k:Int)%2)=some (if k%2=0 then 111 else 118):=by
 have:∀k:Fin 8,cQ (Str.ofString "ov").cps.toList ((k.val:Int)%2)=some (if k.val%2=0 then 111 else 118):=by decide +kernel
 exact this ⟨k,h⟩
theorem JC(ds:List D)(Qr:R->Prop)(hl:ds.length=1)(h:rz ds Qr):xf { nx:=fun _=>Qr (.fz .non),rt:=Qr } (eW ["_law_cell","_law_size","_law_stem_here","_law_at","_law_other"] ds):=by
 obtain⟨i,rfl,q⟩:=h;show xf _ [.fz (.int i),.un,.un,.un,.un];unfold xf;walk_at "all";unfold l7 pL vy at q;generalize (i%1000000000000000000000000+5)*7046029254386353131%1000000000000000000000007=c at q ⊢;have s0:0<=c%6:=aP _ (by decide);have s1:c%6<6:=aN _ (by decide);refine⟨c/512,6,rfl,by decide,by omega,?_⟩;have t0:0<=c/8%(c%6+1):=aP _ (by omega);have t1:c/8%(c%6+1)<c%6+1:=aN _ (by omega);have yt:=Be 6 (c/512);have big:=gP;by_cases h0:c/64%3=0
 ·rw[if_pos h0] at q;rw[if_pos h0];refine kq [104,103,102,101,100,99,98,97] (fun c=>.str ⟨#[c]⟩) (fun s=>.str (e9 ((fX 6 (c/512)).take (c/8%(c%6+1)).toNat++[s]++((fX 6 (c/512)).drop (c/8%(c%6+1)).toNat).take ((c%6).toNat-(c/8%(c%6+1)).toNat)))) (fun Q' h=>?_) (by decide) (fun s hs K1 k=>?_) ?_
  ·walk_at "all";rw[D6];exact h
  ·walk_at "all";rw[qT _ t0,Ge _ t0 s0,nZ,oC,oC];refine⟨by rw[iS];omega,?_,by rw[iS];omega,?_,k⟩
   ·simp only[iS,aL,aw,aT];omega
   ·simp only[iS,au,aL,List.length_drop,aw,aT];omega
  ·exact q
 ·rw[if_neg h0] at q;rw[if_neg h0];by_cases h1:c/64%3=1
  ·rw[if_pos h1] at q;rw[if_pos h1];have u0:0<=c%6%4:=aP _ (by decide);refine kq (List.range 8) (fun(i:Nat)=>.int (0+i)) (fun k=>.str (e9 ((fX 6 (c/512)).take (c%6%4).toNat++[if k/4=0 then 109 else 116]++[if k/2%2=0 then 110 else 117]++[if k%2=0 then 111 else 118]))) (fun Q' h=>?_) (by decide) (fun s hs K1 k=>?_) ?_
   ·walk_at "all";exact h
   ·have yi:s<8:=by simpa using hs
    rw[Int.zero_add];walk_at "all";rw[qT _ u0];refine⟨by rw[iS];omega,by decide,_,CZ s yi,?_,by decide,_,CY s yi,?_,by decide,_,CW s yi,?_,?_⟩
    ·simp only[iS,nZ,aL,aw,aT];omega
    ·simp only[iS,nZ,oC,au,aL,aw,aT];omega
    ·simp only[iS,nZ,oC,au,aL,aw,aT];omega
    ·simp only[nZ,oC];exact k
   ·rw[List.map_map] at q;exact q
  ·rw[if_neg h1] at q;rw[if_neg h1];obtain⟨a,b,c',d,e,f,hs,ha,hb,hc,hd,he,hf⟩:=zB (c/512);rw[hs] at q ⊢;have o9:cQ (e9 [a,b,c',d,e,f]).cps.toList 0=some a:=by rw[qU];rfl
   refine⟨by rw[iS];simp;omega,a,o9,?_⟩;have ho:cQ (Str.ofString "ab").cps.toList (if (⟨#[a]⟩:Str)=Str.ofString "a" then 1 else 0)=some (if a=97 then 98 else 97):=by
    by_cases yQ:a=97
    ·subst yQ;decide +kernel
    ·have:¬((⟨#[a]⟩:Str)=Str.ofString "a"):=by
      intro z;have z2:(⟨#[a]⟩:Str).cps.toList=(Str.ofString "a").cps.toList:=by rw[z]
      have z3:(Str.ofString "a").cps.toList=[97]:=by decide +kernel
      rw[z3] at z2;simp at z2;exact yQ z2
     rw[if_neg this,if_neg yQ];decide +kernel
   refine⟨by decide,_,ho,?_⟩;walk_at "all";rw[Hb _ (by decide),nZ,oC];refine⟨by rw[iS];simp;omega,by simp only[iS];simp;omega,?_⟩;refine kq (List.range 6) (fun(i:Nat)=>.int (0+i)) (fun k=>.str (e9 ([a,b,c',d,e,f].take (k+1)))) (fun Q' h=>?_) (by decide) (fun s hs K1 k=>?_) ?_
   ·walk_at "all";exact h
   ·walk_at "all";rw[qT _ (by omega),show(0+(s:Int)+1).toNat=s+1 by omega];exact⟨by rw[iS];simp;omega,k⟩
   ·walk_at "all";rw[qT _ (by decide),qT _ (by decide)];refine⟨by rw[iS];simp;omega,by rw[iS];simp;omega,by decide,by simp;omega,?_⟩;simp only[aO,List.map_map,av,aW] at q;exact q
end Wc
namespace Wc
open PySem L2
def rj:cI:=fun ds Q=>∃(ws:List Str) (cells:List Int) (bV:Int) (W:Nat),ds=[dS ws,dI cells,.int bV,.int W]/\ws.length=8/\W<=40/\
 ∀top aZ:List (Option Str),top.length=W->aZ.length=W->dN ws top->dN ws aZ->Q (.fz (.tup [dP top,dP aZ]))
def xn:TX:=(bH (kb 4 (ff bx))
 (bH (kb 5 (ff bx))
 (bH (gZ (kh (bh (a9 3) bx)) (bW 6) (bH (kb 7 (ff bx))
 (bH (gZ (kh (bh (dC (.int 2)) bx)) (bW 8) (bH (cv 9 (bj cR (bj (oI fN fun i j=>.int (i*j)) (dC (.int 2)) (a9 6)) (a9 8)))
 (bH (cv 10 (dy 2 mf (bh (a9 2) (bh (a9 9) bx))))
 (bH (dU (bZ (bj (jW fun i j=>.bl (decide (i<j))) (a9 9) (cM gX (bh (a9 1) bx)))) (cv 10 (dy 2 mf (bh (bj b9 (a9 1) (a9 9)) (bh (a9 9) bx)))) eh)
 (iE 7 (bj b9 (ff (bh (bj b9 (a9 0) (bj (oI (fun _ j=>0<j) fun i j=>.int (i%j)) (a9 10) (dC (.int 8)))) (bh (bj b9 (a9 0) (bj (oI (fun _ j=>0<j) fun i j=>.int (i%j)) (bj (oI gi fun i j=>.int (i/j)) (a9 10) (dC (.int 8))) (dC (.int 3)))) (bh (bj b9 (a9 0) (bj (oI (fun _ j=>0<j) fun i j=>.int (i%j)) (bj (oI gi fun i j=>.int (i/j)) (a9 10) (dC (.int 8))) (dC (.int 5)))) (bh (dC .non) bx))))) (bj (oI (fun _ j=>0<j) fun i j=>.int (i%j)) (bj (oI gi fun i j=>.int (i/j)) (a9 10) (dC (.int 64))) (dC (.int 4)))))))))
 (bH (iE 4 (qF 7 (dC (.int 0))))
 (iE 5 (qF 7 (dC (.int 1))))))))
 (qC 5 (qC 4 (dr (g7 (bh (a9 4) (bh (a9 5) bx)))))))))
theorem wD(ws:List Str):dN ws []:=fun w h=>by cases h
theorem wU{ws:List Str}{l:List (Option Str)}{x:Option Str}(h:dN ws l)(hx:∀w,x=some w->w∈ws):dN ws (l++[x]):=fun w hw=>by
 rcases aA.mp hw with h1 | h1
 ·exact h w h1
 ·exact hx w (aD.mp h1).symm
theorem JH(ds:List D)(Qr:R->Prop)(hl:ds.length=4)(h:rj ds Qr):xn { nx:=fun _=>Qr (.fz .non),rt:=Qr } (eW ["_law_words","_law_cells","_law_seed","_law_width","_law_top","_law_bottom","_law_c","_law_row","_law_side","_law_k","_law_one"] ds):=by
 obtain⟨ws,cells,bV,W,rfl,ik,hW,q⟩:=h;show xn _ [.fz (dS ws),.fz (dI cells),.fz (.int bV),.fz (.int W),.un,.un,.un,.un,.un,.un,.un];unfold xn;have big:=gP;walk_at "px";refine⟨by omega,?_⟩;walk_at "go";refine⟨by omega,?_⟩;walk_at "go";refine p7 W (fun Q' h=>?_) (fun i ρ=>∃(top aZ:List (Option Str)) (a b c d e:Sl),ρ=[.fz (dS ws),.fz (dI cells),.fz (.int bV),.fz (.int W),.ow (top.map dO),.ow (aZ.map dO),a,b,c,d,e]/\top.length=i/\aZ.length=i/\dN ws top/\dN ws aZ) ⟨[],[],_,_,_,_,_,rfl,rfl,rfl,wD _,wD _⟩ ?_ ?_
 ·walk_at "px";exact⟨by omega,by omega,by simpa using h⟩
 ·rintro i ρ hi ⟨top,aZ,a,b,c,d,e,rfl,ht,hb,pt,pb⟩;walk_at "px";refine⟨by omega,?_⟩;walk_at "go";refine p7 2 (fun Q' h=>?_) (fun j ρ=>∃(row:List (Option Str)) (c d e:Sl),ρ=[.fz (dS ws),.fz (dI cells),.fz (.int bV),.fz (.int W),.ow (top.map dO),.ow (aZ.map dO),.fz (.int i),.ow (row.map dO),c,d,e]/\row.length=j/\dN ws row) ⟨[],_,_,_,rfl,rfl,wD _⟩ ?_ ?_
  ·walk_at "px";exact h
  ·rintro j ρ hj ⟨row,c,d,e,rfl,hr,pr⟩;walk_at "px";walk_at "go";have k0:(0:Int)<=2*(i:Int)+j:=by omega
   have k1:2*(i:Int)+j<=1000000:=by omega
   refine⟨bV,_,rfl,k0,k1,?_⟩;walk_at "go";unfold dI;walk_at "px";split
   focus
    rename_i hc;rw[af] at hc;obtain⟨z,hz,_⟩:=vV (l:=cells) k0 hc;refine⟨z,hz,z,_,rfl,k0,k1,?_⟩
   all_goals
    generalize ox _ _=one;walk_at "go";unfold dS;walk_at "px";obtain⟨z1,h1,m1⟩:=CH one ik;obtain⟨z2,h2,m2⟩:=ve (one/8) ik;obtain⟨z3,h3,m3⟩:=yZ (one/8) ik;refine⟨z1,h1,z2,h2,z3,h3,by omega,?_⟩;have h4:=ua (l:=[some z1,some z2,some z3,none]) (n:=4) (one/64) (by simp) (by decide);obtain⟨z,hz,mz⟩:=h4;refine⟨dO z,?_,by simp;omega,row++[z],_,_,_,by rw[aO];rfl,by simp[hr],wU pr ?_⟩
    ·have:=congrArg (Option.map dO) hz;rw[<-vW] at this;exact this
    ·intro w hw;subst hw;simp only[ai,aV,aB,or_false,reduceCtorEq] at mz;rcases mz with rfl | rfl | rfl
     ·exact m1
     ·exact m2
     ·exact m3
  ·rintro ρ ⟨row,c,d,e,rfl,hr,pr⟩;obtain⟨x,y,rfl⟩:∃x y,row=[x,y]:=by
    match row,hr with
    | [x,y],_=>exact⟨x,y,rfl⟩
   walk_at "go";refine⟨dO x,rfl,by simp;omega,?_⟩;walk_at "go";refine⟨dO y,rfl,by simp;omega,top++[x],aZ++[y],_,_,_,_,_,by rw[aO,aO];rfl,by simp[ht],by simp[hb],wU pt fun w hw=>pr w (by simp[hw]),wU pb fun w hw=>pr w (by simp[hw])⟩
 ·rintro ρ ⟨top,aZ,a,b,c,d,e,rfl,ht,hb,pt,pb⟩;walk_at "go";exact⟨by omega,q top aZ ht hb pt pb⟩
noncomputable def eG(top aZ:List (Option Str))(left right:List Str)(w:Str):Nat:=top.count (some w)+aZ.count (some w)+left.count w+right.count w
def pX:cI:=fun ds Q=>∃(top aZ:List (Option Str)) (left right:List Str) (w:Str),ds=[dP top,dP aZ,dS left,dS right,.str w]/\top.length+aZ.length+left.length+right.length<=100000/\Q (.fz (.int (eG top aZ left right w)))
def xm:TX:=(bH (cv 5 (bj cR (bj cR (bj cR (a9 0) (a9 1)) (a9 2)) (a9 3)))
 (dr (dM "list" t6 (a9 5) (bh (a9 4) bx))))
theorem zG(w:Str)(l:List (Option Str)):kI (.str w) (l.map dO)=l.count (some w):=by
 unfold kI;rw[List.countP_map,List.count];congr 1
 funext x
 simp only[Function.comp_apply,mS];rw[pQ]
theorem zF(w:Str)(l:List Str):kI (.str w) (l.map D.str)=l.count w:=by
 unfold kI;rw[List.countP_map,List.count];congr 1
theorem wC(d:D)(a b:List D):kI d (a++b)=kI d a+kI d b:=by unfold kI;exact List.countP_append
theorem JG(ds:List D)(Qr:R->Prop)(hl:ds.length=5)(h:pX ds Qr):xm { nx:=fun _=>Qr (.fz .non),rt:=Qr } (eW ["_law_top","_law_bottom","_law_left","_law_right","_law_word","_law_some"] ds):=by
 obtain⟨top,aZ,left,right,w,rfl,hz,q⟩:=h;show xm _ [.fz (dP top),.fz (dP aZ),.fz (dS left),.fz (dS right),.fz (.str w),.un];unfold xm;have big:=gP;unfold dP dS;walk_at "px";refine⟨by simp;omega,by simp;omega,by simp;omega,?_⟩;walk_at "go";refine⟨rfl,?_,?_⟩
 ·intro e he;simp only[aA] at he;rcases he with((he | he) | he) | he
  ·exact uo 8 top e he
  ·exact uo 8 aZ e he
  ·exact nR 8 left e he
  ·exact nR 8 right e he
 ·rw[wC,wC,wC,zG,zG,zF,zF];exact q
theorem tK(l:List Int)(a:Int):l.map D.int++[D.int a]=(l++[a]).map D.int:=by simp
noncomputable def places(top aZ:List (Option Str))(left right:List Str)(w:Str):List Int:=
 (((List.range top.length).filter fun c=>top[c]?==some (some w)||aZ[c]?==some (some w)).map fun(c:Nat)=>(c:Int))++(if w∈left then [-1] else [])++(if w∈right then [(top.length:Int)] else [])
def lW(m:Int)(l:List Int):Prop:=m∈l/\∀a∈l,m<=a
def lX(m:Int)(l:List Int):Prop:=m∈l/\∀a∈l,a<=m
def p8:cI:=fun ds Q=>∃(top aZ:List (Option Str)) (left right:List Str) (w:Str),ds=[dP top,dP aZ,dS left,dS right,.str w]/\aZ.length=top.length/\top.length<=100/\left.length<=100/\right.length<=100/\
 ∀m M,lW m (places top aZ left right w++[99])->lX M (places top aZ left right w++[-9])->Q (.fz (.tup [.int m,.int M]))
def xy:TX:=(bH (kb 5 (et (kh (bh (cM gX (bh (a9 0) bx)) bx)) [none,some 4,some 0,some 1] (bW 0) (bZ (bj (iF false) (a9 1) (ff (bh (bj b9 (a9 2) (a9 0)) (bh (bj b9 (a9 3) (a9 0)) bx))))) (a9 0)))
 (bH (dU (bZ (bj (iF false) (a9 4) (a9 2))) (iE 5 (pD (dC (.int 1)))) eh)
 (bH (dU (bZ (bj (iF false) (a9 4) (a9 3))) (iE 5 (cM gX (bh (a9 0) bx))) eh)
 (qC 5 (dr (g7 (bh (cM pB (bh (bj cR (a9 5) (ff (bh (dC (.int 99)) bx))) bx)) (bh (cM my (bh (bj cR (a9 5) (ff (bh (pD (dC (.int 9))) bx))) bx)) bx))))))))
theorem JY(ds:List D)(Qr:R->Prop)(hl:ds.length=5)(h:p8 ds Qr):xy { nx:=fun _=>Qr (.fz .non),rt:=Qr } (eW ["_law_top","_law_bottom","_law_left","_law_right","_law_word","_law_places"] ds):=by
 obtain⟨top,aZ,left,right,w,rfl,hb,ht,yw,hr,q⟩:=h;show xy _ [.fz (dP top),.fz (dP aZ),.fz (dS left),.fz (dS right),.fz (.str w),.un];unfold xy;have big:=gP;unfold dP dS;walk_at "px";refine mh (List.range top.length) (fun(i:Nat)=>.int (0+i)) (fun(i:Nat)=>.int i) (fun c=>top[c]?==some (some w)||aZ[c]?==some (some w)) (fun Q' h=>?_) (by simp;omega) (fun c hc K1 K0 k1 k0=>?_) ?_
 ·walk_at "px";rw[af];exact⟨by omega,by omega,by simpa using h⟩
 ·have lK:c<top.length:=by simpa using hc
  rw[Int.zero_add];walk_at "px";refine⟨_,kn lK,_,kn (l:=aZ) (by omega),by omega,?_,?_⟩
  ·intro e he;simp only[ai,aB,or_false] at he;rcases he with rfl | rfl<;>(rw[k6];trivial)
  ·have e1:inD (.str w) [dO top[c],dO aZ[c]]=(top[c]?==some (some w)||aZ[c]?==some (some w)):=by
    unfold inD;simp only[List.any_cons,List.any_nil,Bool.or_false,mS];rw[ar lK,ar (l:=aZ) (by omega),pQ,pQ];simp
   rw[e1];cases hb:(top[c]?==some (some w)||aZ[c]?==some (some w)) with
   | true=>exact k1 hb
   | false=>exact k0 hb
 ·have e:∀L:List Nat,(L.map fun(i:Nat)=>D.int i)=(L.map (fun(c:Nat)=>(c:Int))).map D.int:=fun L=>by simp
  rw[e];have hlen:(((List.range top.length).filter fun c=>top[c]?==some (some w)||aZ[c]?==some (some w)).map fun(c:Nat)=>(c:Int)).length<=100:=by
   rw[af];refine aJ (List.length_filter_le _ _) ?_;simp;omega
  unfold places at q;generalize (((List.range top.length).filter fun c=>top[c]?==some (some w)||aZ[c]?==some (some w)).map fun(c:Nat)=>(c:Int))=base at q hlen ⊢;walk_at "go";refine⟨nR 8 left,?_⟩;rw[qI];by_cases h1:w∈left<;>by_cases h2:w∈right
  all_goals
   simp only[h1,h2,aY,aU,List.append_nil] at q;simp only[h1,decide_true,decide_false,aY,ay,aU];try(refine⟨by simp;omega,?_⟩)
   walk_at "go";refine⟨nR 8 right,?_⟩;rw[qI];simp only[h2,decide_true,decide_false,aY,ay,aU];try(refine⟨by simp;omega,?_⟩)
   try simp only[tK,af]
   walk_at "go";refine⟨by omega,by simp;omega,?_⟩;try simp only[tK,pB,my,pY]
   refine⟨by simp,fun m kB gV=>?_⟩;refine⟨by omega,by simp;omega,?_⟩;try simp only[tK,pY]
   refine⟨by simp,fun M yP yO=>?_⟩;exact⟨by omega,q m M ⟨by simpa using kB,by simpa using gV⟩ ⟨by simpa using yP,by simpa using yO⟩⟩
end Wc
namespace Wc
open PySem L2 PyProof.Rows
structure eP (top aZ:List (Option Str)) (left right ws:List Str) (bB:List (Int×Str)):Prop where
 len:bB.length<=top.length
 up:bB.Pairwise fun a b=>a.1<b.1
 at_:∀p∈bB,∃n:Nat,p.1=n/\n<top.length/\p.2∈ws/\(∃m M,lW m (places top aZ left right p.2++[99])/\lX M (places top aZ left right p.2++[-9])/\m<p.1/\p.1<M)/\((top[n]?=some none/\aZ[n]?=some none)\/top[n]?=some (some p.2)\/aZ[n]?=some (some p.2))
def rq:cI:=fun ds Q=>∃(top aZ:List (Option Str)) (left right ws:List Str) (cells:List Int) (bV:Int),ds=[.lst [dP top,dP aZ,dS left,dS right],dS ws,dI cells,.int bV]/\aZ.length=top.length/\top.length<=40/\left.length<=100/\right.length<=100/\ws.length=8/\dN ws top/\cells.length<=1000/\
 ∀bB,eP top aZ left right ws bB->Q (.ow (bB.map j6))
def xc:TX:=(bH (qD (a9 0) (tN 4 (de (bW 4) (de (bW 5) (de (bW 6) (de (bW 7) gh))))))
 (bH (kb 8 (ff bx))
 (bH (gZ (kh (bh (cM gX (bh (a9 4) bx)) bx)) (bW 9) (bH (cv 10 (dy 2 mf (bh (bj b9 (bj cR (a9 2) (ff (bh (a9 3) bx))) (bj (oI (fun _ j=>0<j) fun i j=>.int (i%j)) (a9 9) (bj cR (cM gX (bh (a9 2) bx)) (dC (.int 1))))) (bh (bj cR (a9 9) (dC (.int 200))) bx))))
 (bH (cv 11 (bj b9 (a9 1) (bj (oI (fun _ j=>0<j) fun i j=>.int (i%j)) (a9 10) (dC (.int 8)))))
 (bH (dU (mE (bZ (bj oEq (bj (oI (fun _ j=>0<j) fun i j=>.int (i%j)) (bj (oI gi fun i j=>.int (i/j)) (a9 10) (dC (.int 8))) (dC (.int 3))) (dC (.int 0)))) (bZ (bj (mF true) (bj b9 (a9 4) (a9 9)) (dC .non)))) (cv 11 (bj b9 (a9 4) (a9 9))) eh)
 (bH (qD (dy 5 p8 (bh (a9 4) (bh (a9 5) (bh (a9 6) (bh (a9 7) (bh (a9 11) bx)))))) (g6 2 (de (bW 12) (de (bW 13) gh))))
 (bH (cv 14 (et (fh (ff (bh (bj b9 (a9 4) (a9 9)) (bh (bj b9 (a9 5) (a9 9)) bx)))) [none] (bW 0) (bZ (bj (mF true) (a9 0) (dC .non))) (a9 0)))
 (dU (mE (bZ (bj (jW fun i j=>.bl (decide (i<j))) (a9 12) (a9 9))) (mE (bZ (bj (jW fun i j=>.bl (decide (i<j))) (a9 9) (a9 13))) (mE (lS (bZ (bj oEq (a9 14) (ff bx))) (bZ (bj (iF false) (a9 11) (a9 14)))) (bZ (bj (jW fun i j=>.bl (decide (j<i))) (bj (oI (fun _ j=>0<j) fun i j=>.int (i%j)) (bj (oI gi fun i j=>.int (i/j)) (a9 10) (dC (.int 24))) (dC (.int 3))) (dC (.int 0))))))) (iE 8 (g7 (bh (a9 9) (bh (a9 11) bx)))) eh)))))))
 (nJ 8))))
theorem F8(l:List D):iG l []=l.isEmpty:=by cases l<;>simp[iG]
theorem JB(ds:List D)(Qr:R->Prop)(hl:ds.length=4)(h:rq ds Qr):xc { nx:=fun _=>Qr (.fz .non),rt:=Qr } (eW ["_law_lists","_law_words","_law_cells","_law_seed","_law_top","_law_bottom","_law_left","_law_right","_law_bends_here","_law_c","_law_one","_law_word","_law_l","_law_r","_law_here"] ds):=by
 obtain⟨top,aZ,left,right,ws,cells,bV,rfl,hb,ht,yw,hr,ik,pt,iJ,q⟩:=h;show xc _ [.fz (.lst [dP top,dP aZ,dS left,dS right]),.fz (dS ws),.fz (dI cells),.fz (.int bV),.un,.un,.un,.un,.un,.un,.un,.un,.un,.un,.un];unfold xc;have big:=gP;walk_at "px";walk_at "go";refine⟨by omega,?_⟩;walk_at "go";refine p7 top.length (fun Q' h=>?_) (fun i ρ=>∃(bB:List (Int×Str)) (a b c d e f:Sl),ρ=[.fz (.lst [dP top,dP aZ,dS left,dS right]),.fz (dS ws),.fz (dI cells),.fz (.int bV),.fz (dP top),.fz (dP aZ),.fz (dS left),.fz (dS right),.ow (bB.map j6),a,b,c,d,e,f]/\eP top aZ left right ws bB/\(∀p∈bB,p.1<i)/\bB.length<=i) ⟨[],_,_,_,_,_,_,rfl,⟨by simp,by simp,by simp⟩,by simp,by simp⟩ ?_ ?_
 ·unfold dP;walk_at "px";rw[af];exact⟨by omega,by omega,by simpa using h⟩
 ·rintro i ρ hi ⟨bB,a,b,c,d,e,f,rfl,bo,lt,ln⟩;unfold dI;walk_at "px";rw[af];refine⟨by omega,by omega,by omega,?_⟩;have m0:0<=(i:Int)%((cells.length:Int)+1):=aP _ (by omega);have m1:(i:Int)%((cells.length:Int)+1)<(cells.length:Int)+1:=aN _ (by omega);rw[tK];obtain⟨z,hz,_⟩:=vV (l:=cells++[bV]) m0 (by simp;omega);rw[zL];refine⟨z,hz,z,_,rfl,by omega,by omega,?_⟩;generalize ox _ _=one;unfold dS;walk_at "go";obtain⟨z1,h1,BX⟩:=CH one ik;refine⟨z1,h1,?_⟩;unfold dP;walk_at "go";have o9:top[i]?=some top[i]:=ar hi;have iK:aZ[i]?=some aZ[i]:=ar (by omega);have key:∃w:Str,w∈ws/\∀K:D->Prop,K (.str w)->(if one/8%3=0 then ∃x,cQ top (i:Int)=some x/\(if (!oz (dO x))=true then ∃x,cQ top (i:Int)=some x/\K (dO x) else K (.str z1)) else K (.str z1)):=by
   by_cases hc:one/8%3=0
   ·cases hx:top[i] with
    | none=>exact⟨z1,BX,fun K k=>by rw[if_pos hc];exact⟨none,by rw[kn hi,hx],by simpa[dO,oz] using k⟩⟩
    | some w=>
     refine⟨w,pt w (by rw[<-hx];exact List.getElem_mem hi),fun K k=>?_⟩;rw[if_pos hc];exact⟨some w,by rw[kn hi,hx],by simp only[dO,oz,ag,aY];exact⟨some w,by rw[kn hi,hx],k⟩⟩
   ·exact⟨z1,BX,fun K k=>by rw[if_neg hc];exact k⟩
  obtain⟨w,hw,kw⟩:=key;refine kw (fun d=>nF _ _ [_,_,_,_,_,_,_,_,_,_,_,.fz d,_,_,_]) ?_;walk_at "go";refine⟨top,aZ,left,right,w,rfl,hb,by omega,yw,hr,fun m M hm hM=>?_⟩;walk_at "go";refine mh [top[i],aZ[i]] dO dO (fun x=>x.isSome) (fun Q' h=>?_) (by simp;omega) (fun c hc K1 K0 k1 k0=>?_) ?_
  ·walk_at "px";exact⟨_,kn hi,_,kn (l:=aZ) (by omega),by omega,h⟩
  ·walk_at "px";cases c with
   | none=>exact k0 rfl
   | some x=>exact k1 rfl
  ·walk_at "go";have skip:∀(a b c d e f:Sl) (X Y Z:D),∃(dJ:List (Int×Str)) (a' b' c' d' e' f':Sl),[Sl.fz (D.lst [D.lst (List.map dO top),D.lst (List.map dO aZ),D.lst (List.map D.str left),D.lst (List.map D.str right)]),Sl.fz (D.lst (List.map D.str ws)),Sl.fz (D.lst (List.map D.int cells)),Sl.fz (D.int bV),Sl.fz (D.lst (List.map dO top)),Sl.fz (D.lst (List.map dO aZ)),Sl.fz (D.lst (List.map D.str left)),Sl.fz (D.lst (List.map D.str right)),Sl.ow (List.map j6 bB),a,b,c,d,e,f]=[Sl.fz (D.lst [D.lst (List.map dO top),D.lst (List.map dO aZ),D.lst (List.map D.str left),D.lst (List.map D.str right)]),Sl.fz (D.lst (List.map D.str ws)),Sl.fz (D.lst (List.map D.int cells)),Sl.fz (D.int bV),Sl.fz (D.lst (List.map dO top)),Sl.fz (D.lst (List.map dO aZ)),Sl.fz (D.lst (List.map D.str left)),Sl.fz (D.lst (List.map D.str right)),Sl.ow (List.map j6 dJ),a',b',c',d',e',f']/\eP top aZ left right ws dJ/\(∀p∈dJ,p.1<((i+1:Nat):Int))/\dJ.length<=i+1:=
    fun a b c d e f _ _ _=>⟨bB,a,b,c,d,e,f,rfl,bo,fun p hp=>by have:=lt p hp;omega,by omega⟩
   have i5:some w∈[top[i],aZ[i]].filter (fun x=>x.isSome)↔top[i]=some w\/aZ[i]=some w:=by
    simp only[List.mem_filter,ai,aB,or_false,Option.isSome_some,and_true];constructor
    ·rintro(h | h)
     ·exact .inl h.symm
     ·exact .inr h.symm
    ·rintro(h | h)
     ·exact .inl h.symm
     ·exact .inr h.symm
   have tj:([top[i],aZ[i]].filter (fun x=>x.isSome)=[])->top[i]=none/\aZ[i]=none:=by
    intro h;rw[List.filter_eq_nil_iff] at h;exact⟨by simpa using h top[i] (by simp),by simpa using h aZ[i] (by simp)⟩
   generalize [top[i],aZ[i]].filter (fun x=>x.isSome)=here at i5 tj ⊢;split
   ·rename_i c1;split
    ·rename_i c2;refine⟨by omega,bQ.mono (n:=1) (by omega) (by intro d hd;exact uo 0 here d hd),bQ.mono (n:=1) (by omega) (by intro d hd;cases hd),?_⟩;have fin:(top[i]=none/\aZ[i]=none)\/top[i]=some w\/aZ[i]=some w->eP top aZ left right ws (bB++[((i:Int),w)]):=fun hp=>by
      refine⟨by simp;omega,?_,?_⟩
      ·rw[List.pairwise_append];refine⟨bo.up,by simp,fun a ha b hb=>?_⟩;have:b=((i:Int),w):=by simpa using hb
       subst this;exact lt a ha
      ·intro p qh;rcases aA.mp qh with h | h
       ·exact bo.at_ p h
       ·have:p=((i:Int),w):=by simpa using h
        subst this;refine⟨i,rfl,hi,hw,⟨m,M,hm,hM,c1,c2⟩,?_⟩;rw[o9,iK];simpa using hp
     have put:(top[i]=none/\aZ[i]=none)\/top[i]=some w\/aZ[i]=some w->2<=sizeLine/\(List.map j6 bB).length<sizeLine/\∃(dJ:List (Int×Str)) (a' b' c' d' e' f':Sl),[Sl.fz (D.lst [D.lst (List.map dO top),D.lst (List.map dO aZ),D.lst (List.map D.str left),D.lst (List.map D.str right)]),Sl.fz (D.lst (List.map D.str ws)),Sl.fz (D.lst (List.map D.int cells)),Sl.fz (D.int bV),Sl.fz (D.lst (List.map dO top)),Sl.fz (D.lst (List.map dO aZ)),Sl.fz (D.lst (List.map D.str left)),Sl.fz (D.lst (List.map D.str right)),Sl.ow (List.map j6 bB++[D.tup [D.int i,D.str w]]),Sl.fz (D.int i),Sl.fz (D.int one),Sl.fz (D.str w),Sl.fz (D.int m),Sl.fz (D.int M),Sl.fz (D.lst (here.map dO))]=[Sl.fz (D.lst [D.lst (List.map dO top),D.lst (List.map dO aZ),D.lst (List.map D.str left),D.lst (List.map D.str right)]),Sl.fz (D.lst (List.map D.str ws)),Sl.fz (D.lst (List.map D.int cells)),Sl.fz (D.int bV),Sl.fz (D.lst (List.map dO top)),Sl.fz (D.lst (List.map dO aZ)),Sl.fz (D.lst (List.map D.str left)),Sl.fz (D.lst (List.map D.str right)),Sl.ow (List.map j6 dJ),a',b',c',d',e',f']/\eP top aZ left right ws dJ/\(∀p∈dJ,p.1<((i+1:Nat):Int))/\dJ.length<=i+1:=fun hp=>by
      refine⟨by omega,by simp;omega,bB++[((i:Int),w)],_,_,_,_,_,_,by rw[aO];rfl,fin hp,?_,by simp;omega⟩;intro p qh;rcases aA.mp qh with h | h
      ·have:=lt p h;omega
      ·have:p=((i:Int),w):=by simpa using h
       subst this;show(i:Int)<_;omega
     by_cases ce:here=[]
     ·simp only[ce,aW,bz,iG,aY];split
      ·have:=put (.inl (tj ce));rw[ce] at this;exact this
      ·have:=skip (.fz (D.int i)) (.fz (D.int one)) (.fz (D.str w)) (.fz (D.int m)) (.fz (D.int M)) (.fz (D.lst [])) .non .non .non;exact this
     ·have e1:bz (D.lst (here.map dO)) (D.lst [])=false:=by
       simp only[bz,F8];cases here with
       | nil=>exact absurd rfl ce
       | cons=>rfl
      simp only[e1,ay,aU];refine⟨uo 8 here,?_⟩;rw[zu];simp only[decide_eq_true_eq];split
      ·rename_i qk;split
       ·exact put (.inr (i5.mp qk))
       ·exact skip _ _ _ _ _ _ .non .non .non
      ·exact skip _ _ _ _ _ _ .non .non .non
    ·exact skip _ _ _ _ _ _ .non .non .non
   ·exact skip _ _ _ _ _ _ .non .non .non
 ·rintro ρ ⟨bB,a,b,c,d,e,f,rfl,bo,lt,ln⟩;walk_at "go";exact q bB bo
def ix(W:Nat)(keeps:List (Int×Int×Int)):Prop:=keeps.length<=6/\∀p∈keeps,0<=p.1/\p.1<=p.2.1/\p.2.1<W/\1<=p.2.2/\p.2.2<=3
def rp:cI:=fun ds Q=>∃(W:Nat) (cells:List Int) (bV:Int),ds=[.int W,dI cells,.int bV]/\1<=W/\W<=40/\∀keeps,ix W keeps->Q (.ow (keeps.map nu))
def xb:TX:=(bH (kb 3 (ff bx))
 (bH (gZ (tS (bh (iM (a9 1) jt (hJ (dC (.int 6)))) bx)) (g6 2 (de (bW 4) (de (bW 5) gh))) (bH (cv 6 (dy 2 mf (bh (bj cR (a9 5) (a9 2)) (bh (bj cR (a9 4) (dC (.int 300))) bx))))
 (bH (cv 7 (bj (oI (fun _ j=>0<j) fun i j=>.int (i%j)) (a9 6) (a9 0)))
 (dU (bZ (bj oEq (bj (oI (fun _ j=>0<j) fun i j=>.int (i%j)) (bj (oI gi fun i j=>.int (i/j)) (a9 6) (dC (.int 64))) (dC (.int 4))) (dC (.int 0)))) (iE 3 (g7 (bh (a9 7) (bh (bj cR (a9 7) (bj (oI (fun _ j=>0<j) fun i j=>.int (i%j)) (bj (oI gi fun i j=>.int (i/j)) (a9 6) (dC (.int 256))) (bj (jW fun i j=>.int (i-j)) (a9 0) (a9 7)))) (bh (bj cR (dC (.int 1)) (bj (oI (fun _ j=>0<j) fun i j=>.int (i%j)) (bj (oI gi fun i j=>.int (i/j)) (a9 6) (dC (.int 1024))) (dC (.int 3)))) bx))))) eh))))
 (nJ 3)))
theorem JA(ds:List D)(Qr:R->Prop)(hl:ds.length=3)(h:rp ds Qr):xb { nx:=fun _=>Qr (.fz .non),rt:=Qr } (eW ["_law_width","_law_cells","_law_seed","_law_keeps_here","_law_k","_law_cell","_law_one","_law_first"] ds):=by
 obtain⟨W,cells,bV,rfl,hW,My,q⟩:=h;show xb _ [.fz (.int W),.fz (dI cells),.fz (.int bV),.un,.un,.un,.un,.un];unfold xb dI;have big:=gP;walk_at "px";refine⟨by omega,?_⟩;walk_at "go";refine Ha (cells.take 6) D.int (fun Q' h=>?_) (fun i ρ=>∃(keeps:List (Int×Int×Int)) (a b c d:Sl),ρ=[.fz (.int W),.fz (D.lst (List.map D.int cells)),.fz (.int bV),.ow (keeps.map nu),a,b,c,d]/\keeps.length<=i/\∀p∈keeps,0<=p.1/\p.1<=p.2.1/\p.2.1<W/\1<=p.2.2/\p.2.2<=3) ⟨[],_,_,_,_,rfl,by simp,by simp⟩ ?_ ?_
 ·walk_at "px";rw[uc _ (by decide)];exact h
 ·rintro i x ρ hx ⟨keeps,a,b,c,d,rfl,kl,ko⟩;have hi:i<6:=by
   have:=(ax.mp hx).1;simp at this;omega
  walk_at "px";refine⟨x+bV,(i:Int)+300,rfl,by omega,by omega,?_⟩;have n0:=DF (x+bV) ((i:Int)+300);generalize ox _ _=one at n0 ⊢;walk_at "go";have f0:0<=one%(W:Int):=aP _ (by omega);have f1:one%(W:Int)<W:=aN _ (by omega);refine⟨by omega,?_⟩;generalize one%(W:Int)=fst at f0 f1 ⊢;walk_at "go";have g0:0<=one/256%((W:Int)-fst):=aP _ (by omega);have g1:one/256%((W:Int)-fst)<(W:Int)-fst:=aN _ (by omega);have k0:0<=one/1024%3:=aP _ (by omega);have k1:one/1024%3<3:=aN _ (by omega);generalize one/256%((W:Int)-fst)=sp at g0 g1 ⊢;generalize one/1024%3=kk at k0 k1 ⊢;split
  ·refine⟨by omega,by omega,by simp;omega,keeps++[(fst,fst+sp,1+kk)],_,_,_,_,by rw[aO];rfl,by simp;omega,fun p hp=>?_⟩;rcases aA.mp hp with h | h
   ·exact ko p h
   ·have:p=(fst,fst+sp,1+kk):=by simpa using h
    subst this;refine⟨f0,?_,?_,?_,?_⟩<;>dsimp only<;>omega
  ·exact⟨keeps,_,_,_,_,rfl,by omega,ko⟩
 ·rintro ρ ⟨keeps,a,b,c,d,rfl,kl,ko⟩;walk_at "go";refine q keeps ⟨?_,ko⟩;rw[aL] at kl;omega
def pW:cI:=fun ds Q=>∃(ws:List Str) (bits:Int),ds=[dS ws,.int bits]/\ws.length=8/\ws.Nodup/\∀l:List Str,l.length<=8->l.Nodup->(∀w∈l,w∈ws)->sortedS l=true->Q (.ow (l.map .str))
def xl:TX:=(bH (dU (bZ (bj oEq (bj (oI (fun _ j=>0<j) fun i j=>.int (i%j)) (bj (oI gi fun i j=>.int (i/j)) (a9 1) (dC (.int 256))) (dC (.int 2))) (dC (.int 0)))) (dr (ff bx)) eh)
 (dr (cM mL (bh (et (kh (bh (dC (.int 8)) bx)) [none,some 0,some 1] (bW 0) (bZ (bj oEq (bj (oI (fun _ j=>0<j) fun i j=>.int (i%j)) (bj (oI gi fun i j=>.int (i/j)) (a9 2) (bj b9 (ff (bh (dC (.int 1)) (bh (dC (.int 2)) (bh (dC (.int 4)) (bh (dC (.int 8)) (bh (dC (.int 16)) (bh (dC (.int 32)) (bh (dC (.int 64)) (bh (dC (.int 128)) bx))))))))) (a9 0))) (dC (.int 2))) (dC (.int 1)))) (bj b9 (a9 1) (a9 0))) bx))))
theorem El(k:Nat)(h:k<8):cQ ([1,2,4,8,16,32,64,128]:List Int) (k:Int)=some ((2:Int) ^ k):=by
 have:∀k:Fin 8,cQ ([1,2,4,8,16,32,64,128]:List Int) (k.val:Int)=some ((2:Int) ^ k.val):=by decide +kernel
 exact this ⟨k,h⟩
theorem D5(k:Nat)(h:k<8):0<(2:Int) ^ k/\(2:Int) ^ k<1073741824:=by
 have:∀k:Fin 8,0<(2:Int) ^ k.val/\(2:Int) ^ k.val<1073741824:=by decide +kernel
 exact this ⟨k,h⟩
theorem HA{α:Type}(ws:List α)(d:α):(List.range ws.length).map (fun k=>ws.getD k d)=ws:=by
 apply List.ext_getElem
 ·simp
 ·intro i h1 h2;simp[h2]
theorem JF(ds:List D)(Qr:R->Prop)(hl:ds.length=2)(h:pW ds Qr):xl { nx:=fun _=>Qr (.fz .non),rt:=Qr } (eW ["_law_words","_law_bits"] ds):=by
 obtain⟨ws,bits,rfl,ik,nd,q⟩:=h;show xl _ [.fz (dS ws),.fz (.int bits)];unfold xl dS;have big:=gP;walk_at "px";split
 ·exact⟨by omega,q [] (by simp) (by simp) (by simp) rfl⟩
 ·walk_at "go";refine mh (List.range 8) (fun(i:Nat)=>.int (0+i)) (fun k=>.str (ws.getD k "")) (fun k=>decide (bits/2 ^ k%2=1)) (fun Q' h=>?_) (by simp;omega) (fun c hc K1 K0 k1 k0=>?_) ?_
  ·walk_at "px";exact h
  ·have Cp:c<8:=by simpa using hc
   rw[Int.zero_add];walk_at "px";refine⟨by omega,D.int (2 ^ c),?_,?_⟩
   ·have:=congrArg (Option.map D.int) (El c Cp);rw[<-vW] at this;exact this
   ·walk_at "px";refine⟨D5 c Cp,?_⟩;by_cases hb:bits/2 ^ c%2=1
    ·simp only[hb,bz,beq_self_eq_true,aY];refine⟨ws[c],kn (by omega),?_⟩;have:=k1 (by simpa using hb);rwa [show ws.getD c ""=ws[c] by simp[show c<ws.length by omega]] at this
    ·rw[if_neg hb];exact k0 (by simpa using hb)
  ·have e:∀L:List Nat,(L.map fun k=>D.str (ws.getD k ""))=(L.map fun k=>ws.getD k "").map D.str:=fun L=>by simp
   show mL [D.lst _] _;rw[e];have sub:List.Sublist (((List.range 8).filter fun k=>decide (bits/2 ^ k%2=1)).map fun k=>ws.getD k "") ws:=by
    have:=List.Sublist.map (fun k=>ws.getD k "") (List.filter_sublist (p:=fun k=>decide (bits/2 ^ k%2=1)) (l:=List.range 8));rwa [<-ik,HA,ik] at this
   generalize (((List.range 8).filter fun k=>decide (bits/2 ^ k%2=1)).map fun k=>ws.getD k "")=ss at sub ⊢;unfold mL;simp only[rK];have hle:=sub.length_le;refine⟨by omega,fun gq hp hs=>q gq (by rw[hp.length_eq];omega) (hp.nodup_iff.mpr (sub.nodup nd)) (fun w hw=>sub.subset (hp.subset hw)) hs⟩
end Wc
namespace Wc
open PySem L2 PyProof.Rows
noncomputable def gL(bD:List Str):Option Str->Option Str
 | none=>none
 | some w=>if w∈bD then none else some w
theorem CV(x:Option Str)(l:List Str):inD (dO x) (l.map .str)=(match x with | none=>false | some w=>decide (w∈l)):=by
 cases x with
 | none=>
  unfold inD;rw[List.any_map];induction l with
  | nil=>rfl
  | cons a r ih=>rw[List.any_cons,ih];simp[dO,bz]
 | some w=>exact qI w l
theorem BC(bD:List Str)(w:Str)(l:List (Option Str)):(l.map (gL bD)).count (some w)=if w∈bD then 0 else l.count (some w):=by
 induction l with
 | nil=>simp
 | cons a r ih=>
  rw[av,List.count_cons,ih,List.count_cons];cases a with
  | none=>simp[gL]
  | some v=>
   unfold gL;by_cases h:v∈bD
   ·by_cases hw:w∈bD
    ·simp[h,hw]
    ·have:v≠w:=fun z=>hw (z▸h)
     simp[h,hw,this]
   ·by_cases hw:w∈bD
    ·have:v≠w:=fun z=>h (z▸hw)
     simp[h,hw,this]
    ·simp[h,hw]
theorem Bv(bD:List Str)(w:Str)(l:List Str):(l.filter fun x=>decide (x∉bD)).count w=if w∈bD then 0 else l.count w:=by
 by_cases hw:w∈bD
 ·rw[if_pos hw,List.count_eq_zero];intro h;rw[List.mem_filter] at h;simpa[hw] using h.2
 ·rw[if_neg hw,List.count_filter];simpa using hw
theorem BB{ws bD:List Str}{l:List (Option Str)}(h:dN ws l):dN ws (l.map (gL bD)):=fun w hw=>by
 rw[aF] at hw;obtain⟨x,hx,e⟩:=hw;cases x with
 | none=>cases e
 | some v=>
  by_cases hv:v∈bD
  ·simp[gL,hv] at e
  ·simp[gL,hv] at e;subst e;exact h _ hx
theorem Ek{ws:List Str}{top aZ:List (Option Str)}{left right:List Str}(pt:dN ws top)(pb:dN ws aZ)(lf:∀w∈left,w∈ws)(rt:∀w∈right,w∈ws){w:Str}(h:w∉ws):eG top aZ left right w=0:=by
 unfold eG;rw[List.count_eq_zero.mpr fun z=>h (pt w z),List.count_eq_zero.mpr fun z=>h (pb w z),List.count_eq_zero.mpr fun z=>h (lf w z),List.count_eq_zero.mpr fun z=>h (rt w z)]
theorem Hz{ws:List Str}{top aZ:List (Option Str)}{left right:List Str}(pt:dN ws top)(pb:dN ws aZ)(lf:∀w∈left,w∈ws)(rt:∀w∈right,w∈ws)(bD:List Str)(hl:bD=ws.filter fun w=>decide (eG top aZ left right w=1))(w:Str) :
  eG (top.map (gL bD)) (aZ.map (gL bD)) (left.filter fun x=>decide (x∉bD)) (right.filter fun x=>decide (x∉bD)) w≠1:=by
 have e:eG (top.map (gL bD)) (aZ.map (gL bD)) (left.filter fun x=>decide (x∉bD)) (right.filter fun x=>decide (x∉bD)) w=if w∈bD then 0 else eG top aZ left right w:=by
  unfold eG;rw[BC,BC,Bv,Bv];split<;>simp
 rw[e];by_cases h:w∈bD
 ·rw[if_pos h];decide
 ·rw[if_neg h];by_cases ik:w∈ws
  ·intro z;apply h;rw[hl,List.mem_filter];exact⟨ik,by simpa using z⟩
  ·rw[Ek pt pb lf rt ik];decide
structure jJ (ws:List Str) (most:Nat) (c:bE):Prop where
 w1:1<=c.top.length
 w2:c.top.length<=most
 bl:c.aZ.length=c.top.length
 pt:dN ws c.top
 pb:dN ws c.aZ
 ll:c.left.length<=8
 lw:∀w∈c.left,w∈ws
 lo:c.left.Pairwise jC
 rl:c.right.length<=8
 rw_:∀w∈c.right,w∈ws
 ro:c.right.Pairwise jC
 cnt:∀w,eG c.top c.aZ c.left c.right w≠1
 wl:c.wide.length<=8
 wo:(c.wide.map (·.1)).Pairwise jC
 ww:∀p∈c.wide,p.1∈ws/\(p.2=2\/p.2=3)/\1<eG c.top c.aZ c.left c.right p.1
 be:eP c.top c.aZ c.left c.right ws c.bB
 ke:ix c.top.length c.keeps
def rM:cI:=fun ds Q=>∃(ns:List Int) (most:Nat),ds=[dI ns,.int most]/\ns.length<=1000/\1<=most/\most<=40/\∀c,jJ (l7 (qm ns)) most c->Q (.ow c.parts)
def xx:TX:=(bH (cv 2 (bj (oI (fun _ j=>0<j) fun i j=>.int (i%j)) (bj (oI fN fun i j=>.int (i*j)) (bj (oI (fun _ j=>0<j) fun i j=>.int (i%j)) (cM pC (bh (iM (a9 0) jt (hJ (dC (.int 1)))) bx)) (bj (oI l3 fun i j=>.int (i ^ j.toNat)) (dC (.int 10)) (dC (.int 30)))) (dC (.int 40014))) (dC (.int 2147483563))))
 (bH (cv 3 (dy 1 rz (bh (cM pC (bh (iM (a9 0) jt (hJ (dC (.int 1)))) bx)) bx)))
 (bH (cv 4 (bj cR (dC (.int 1)) (bj (oI (fun _ j=>0<j) fun i j=>.int (i%j)) (a9 2) (a9 1))))
 (bH (cv 5 (iM (a9 0) (hJ (dC (.int 1))) jt))
 (bH (qD (dy 4 rj (bh (a9 3) (bh (a9 5) (bh (a9 2) (bh (a9 4) bx))))) (g6 2 (de (bW 6) (de (bW 7) gh))))
 (bH (cv 8 (dy 2 mf (bh (cM pC (bh (iM (a9 0) (hJ (dC (.int 1))) (hJ (dC (.int 2)))) bx)) (bh (bj cR (dC (.int 400)) (bj (oI (fun _ j=>0<j) fun i j=>.int (i%j)) (a9 2) (dC (.int 7)))) bx))))
 (bH (cv 9 (dy 2 pW (bh (a9 3) (bh (a9 8) bx))))
 (bH (cv 10 (dy 2 pW (bh (a9 3) (bh (bj (oI gi fun i j=>.int (i/j)) (a9 8) (dC (.int 512))) bx))))
 (bH (cv 11 (et (fh (a9 3)) [none,some 6,some 7,some 9,some 10] (bW 0) (bZ (bj oEq (dy 5 pX (bh (a9 1) (bh (a9 2) (bh (a9 3) (bh (a9 4) (bh (a9 0) bx)))))) (dC (.int 1)))) (a9 0)))
 (bH (cv 6 (et (fh (a9 6)) [none,some 11] (bW 0) gY (qu (bZ (bj (iF false) (a9 0) (a9 1))) (dC .non) (a9 0))))
 (bH (cv 7 (et (fh (a9 7)) [none,some 11] (bW 0) gY (qu (bZ (bj (iF false) (a9 0) (a9 1))) (dC .non) (a9 0))))
 (bH (cv 9 (et (fh (a9 9)) [none,some 11] (bW 0) (bZ (bj (iF true) (a9 0) (a9 1))) (a9 0)))
 (bH (cv 10 (et (fh (a9 10)) [none,some 11] (bW 0) (bZ (bj (iF true) (a9 0) (a9 1))) (a9 0)))
 (bH (kb 12 (ff bx))
 (bH (gZ (tS (bh (cM mL (bh (a9 3) bx)) bx)) (g6 2 (de (bW 13) (de (bW 14) gh))) (bH (cv 15 (dy 2 mf (bh (bj cR (a9 2) (a9 13)) (bh (dC (.int 500)) bx))))
 (dU (mE (bZ (bj oEq (bj (oI (fun _ j=>0<j) fun i j=>.int (i%j)) (a9 15) (dC (.int 4))) (dC (.int 0)))) (bZ (bj (jW fun i j=>.bl (decide (j<i))) (dy 5 pX (bh (a9 6) (bh (a9 7) (bh (a9 9) (bh (a9 10) (bh (a9 14) bx)))))) (dC (.int 1))))) (iE 12 (g7 (bh (a9 14) (bh (bj cR (dC (.int 2)) (bj (oI (fun _ j=>0<j) fun i j=>.int (i%j)) (bj (oI gi fun i j=>.int (i/j)) (a9 15) (dC (.int 4))) (dC (.int 2)))) bx)))) eh)))
 (bH (cv 16 (dy 4 rq (bh (ff (bh (a9 6) (bh (a9 7) (bh (a9 9) (bh (a9 10) bx))))) (bh (a9 3) (bh (a9 5) (bh (a9 2) bx))))))
 (bH (cv 17 (ff bx))
 (bH (dU (bZ (bj oEq (bj (oI (fun _ j=>0<j) fun i j=>.int (i%j)) (bj (oI gi fun i j=>.int (i/j)) (a9 2) (dC (.int 97))) (dC (.int 3))) (dC (.int 0)))) (cv 17 (dy 3 rp (bh (a9 4) (bh (a9 5) (bh (a9 2) bx))))) eh)
 (qC 12 (dr (ff (bh (a9 6) (bh (a9 7) (bh (a9 9) (bh (a9 10) (bh (a9 12) (bh (a9 16) (bh (a9 17) bx))))))))))))))))))))))))))))
theorem JX(ds:List D)(Qr:R->Prop)(hl:ds.length=2)(h:rM ds Qr):xx { nx:=fun _=>Qr (.fz .non),rt:=Qr } (eW ["_law_script","_law_most","_law_seed","_law_words","_law_width","_law_cells","_law_top","_law_bottom","_law_bits","_law_left","_law_right","_law_lone","_law_wide","_law_k","_law_word","_law_one","_law_bends_here","_law_keeps_here"] ds):=by
 obtain⟨ns,most,rfl,hn,hm,gV,q⟩:=h;show xx _ [.fz (dI ns),.fz (.int most),.un,.un,.un,.un,.un,.un,.un,.un,.un,.un,.un,.un,.un,.un,.un,.un];unfold xx dI;have big:=gP;walk_at "px";generalize oa:((gf ns none (some 1)).sum%1000000000000000000000000000000*40014)%2147483563=bV;have s0:0<=bV:=by rw[<-oa];exact aP _ (by decide)
 clear oa;walk_at "go";refine⟨_,rfl,?_⟩;rw[uc _ (by decide)];have hw:=Bd (qm ns);change nF _ _ [_,_,_,.fz (.lst ((l7 (qm ns)).map .str)),_,_,_,_,_,_,_,_,_,_,_,_,_,_];generalize l7 (qm ns)=ws at hw q ⊢;walk_at "go";refine⟨by omega,?_⟩;have m0:0<=bV%(most:Int):=aP _ (by omega);have m1:bV%(most:Int)<most:=aN _ (by omega);obtain⟨W,hW⟩:∃W:Nat,1+bV%(most:Int)=W:=⟨(1+bV%(most:Int)).toNat,by omega⟩
 rw[hW];walk_at "go";rw[uy _ (by decide)];walk_at "go";refine⟨ws,ns.drop 1,bV,W,rfl,hw.len,by omega,fun top aZ ht hb pt pb=>?_⟩;walk_at "px";walk_at "go";refine⟨_,_,rfl,by have:=aP bV (show(7:Int)≠0 by decide);omega,by have:=aN bV (show(0:Int)<7 by decide);omega,?_⟩;generalize ox _ _=bits;walk_at "go";refine⟨ws,bits,rfl,hw.len,hw.nd,fun left KR KQ BY KP=>?_⟩;walk_at "go";refine⟨ws,_,rfl,hw.len,hw.nd,fun right Ku Kt BP Ks=>?_⟩;walk_at "go";refine mh ws D.str D.str (fun w=>decide (eG top aZ left right w=1)) (fun Q' h=>?_) (by have:=hw.len;omega) (fun w _ K1 K0 k1 k0=>?_) ?_
 ·walk_at "px";exact h
 ·walk_at "px";refine⟨top,aZ,left,right,w,rfl,by omega,?_⟩;walk_at "px";by_cases hc:eG top aZ left right w=1
  ·rw[if_pos (by omega)];exact k1 (by simpa using hc)
  ·rw[if_neg (by omega)];exact k0 (by simpa using hc)
 generalize og:ws.filter (fun w=>decide (eG top aZ left right w=1))=bD;have yY:=Hz pt pb BY BP bD og.symm;have yu:bD.length<=8:=by rw[<-og];have:=List.length_filter_le (fun w=>decide (eG top aZ left right w=1)) ws;have:=hw.len;omega
 have un:∀(l:List (Option Str)) (j:Nat) (ρ:Ev) (Q:R->Prop),l.length<=100->gt ρ j=.fz (dP l)->gt ρ 11=.fz (.lst (bD.map .str))->Q (.ow ((l.map (gL bD)).map dO))->et (fh (a9 j)) [none,some 11] (bW 0) gY (qu (bZ (bj (iF false) (a9 0) (a9 1))) (dC D.non) (a9 0)) ρ Q:=by
  intro l j ρ Q hl hj yR hq;refine kq l dO (fun x=>dO (gL bD x)) (fun Q' h=>?_) (by omega) (fun x hx K1 k=>?_) ?_
  ·simp only[fh,a9,hj];exact h
  ·simp only[gH,av,aW,mD,yR];walk_at "px";have h2:bQ 8 (dO x)/\(∀e∈bD.map D.str,bQ 8 e):=⟨by rw[k6];trivial,nR 8 bD⟩
   have h3:if inD (dO x) (bD.map D.str)=true then K1 D.non else K1 (dO x):=by
    rw[CV];cases x with
    | none=>simpa[gL] using k
    | some v=>
     by_cases hv:v∈bD
     ·simpa[gL,hv,dO] using k
     ·simpa[gL,hv,dO] using k
   cases x with
   | none=>exact⟨h2.1,h2.2,h3⟩
   | some v=>exact⟨h2.1,h2.2,h3⟩
  ·rw[List.map_map] at hq;exact hq
 have xE:∀(l:List Str) (j:Nat) (ρ:Ev) (Q:R->Prop),l.length<=100->gt ρ j=.fz (dS l)->gt ρ 11=.fz (.lst (bD.map .str))->Q (.ow ((l.filter fun x=>decide (x∉bD)).map D.str))->et (fh (a9 j)) [none,some 11] (bW 0) (bZ (bj (iF true) (a9 0) (a9 1))) (a9 0) ρ Q:=by
  intro l j ρ Q hl hj yR hq;refine mh l D.str D.str (fun x=>decide (x∉bD)) (fun Q' h=>?_) (by omega) (fun x hx K1 K0 k1 k0=>?_) hq
  ·simp only[fh,a9,hj];exact h
  ·simp only[gH,av,aW,mD,yR];walk_at "px";refine⟨nR 8 bD,?_⟩;rw[qI];by_cases hv:x∈bD
   ·simpa[hv] using k0 (by simpa using hv)
   ·simpa[hv] using k1 (by simpa using hv)
 walk_at "go";refine un top 6 _ _ (by omega) rfl rfl ?_;walk_at "go";refine un aZ 7 _ _ (by omega) rfl rfl ?_;walk_at "go";refine xE left 9 _ _ (by omega) rfl rfl ?_;walk_at "go";refine xE right 10 _ _ (by omega) rfl rfl ?_;clear un xE;have BR:dN ws (top.map (gL bD)):=BB pt;have qc:dN ws (aZ.map (gL bD)):=BB pb;have cB:(top.map (gL bD)).length=W:=by simpa using ht
 have qo:(aZ.map (gL bD)).length=W:=by simpa using hb
 have KN:(left.filter fun x=>decide (x∉bD)).Pairwise jC:=(wV KP KQ).sublist List.filter_sublist;have Kx:(right.filter fun x=>decide (x∉bD)).Pairwise jC:=(wV Ks Kt).sublist List.filter_sublist;have KL:∀w∈(left.filter fun x=>decide (x∉bD)),w∈ws:=fun w h=>BY w (List.mem_filter.mp h).1
 have ml:∀w∈(right.filter fun x=>decide (x∉bD)),w∈ws:=fun w h=>BP w (List.mem_filter.mp h).1
 have KO:(left.filter fun x=>decide (x∉bD)).length<=8:=aJ (List.length_filter_le _ _) KR;have Ky:(right.filter fun x=>decide (x∉bD)).length<=8:=aJ (List.length_filter_le _ _) Ku;generalize top.map (gL bD)=gR at *;generalize aZ.map (gL bD)=cE at *;generalize (left.filter fun x=>decide (x∉bD))=fb at *;generalize (right.filter fun x=>decide (x∉bD))=right' at *;walk_at "go";refine⟨by omega,?_⟩;walk_at "go";refine A0 (fun ds=>∃ss:List Str,ss.Perm ws/\sortedS ss=true/\ds=kK (ss.map .str)) (fun Q' h=>?_) ?_
 ·walk_at "px";simp only[mL,rK];refine⟨by have:=hw.len;omega,fun ss hp hs=>?_⟩;walk_at "px";exact h _ ⟨ss,hp,hs,rfl⟩
 rintro _ ⟨ss,hp,hs,rfl⟩;have Ml:ss.length=8:=by rw[hp.length_eq];exact hw.len
 have Kl:ss.Pairwise jC:=wV hs (hp.nodup_iff.mpr hw.nd);refine HB ss D.str (fun i ρ=>∃(wide:List (Str×Int)) (a b c:Sl),ρ=[.fz (D.lst (List.map D.int ns)),.fz (D.int most),.fz (D.int bV),.fz (D.lst (List.map D.str ws)),.fz (D.int W),.fz (D.lst (List.map D.int (List.drop 1 ns))),.fz (D.lst (gR.map dO)),.fz (D.lst (cE.map dO)),.fz (D.int bits),.fz (D.lst (fb.map D.str)),.fz (D.lst (right'.map D.str)),.fz (D.lst (bD.map D.str)),.ow (wide.map mx),a,b,c,.un,.un]/\List.Sublist (wide.map (·.1)) (ss.take i)/\(∀p∈wide,(p.2=2\/p.2=3)/\1<eG gR cE fb right' p.1)) ⟨[],_,_,_,rfl,by simp,by simp⟩ ?_ ?_
 ·rintro i x ρ hx ⟨wide,a,b,c,rfl,sub,wo⟩;have hi:i<8:=by have:=(ax.mp hx).1;omega
  have tk:ss.take (i+1)=ss.take i++[x]:=by rw[List.take_add_one,hx];rfl
  have oY:wide.length<=8:=by have:=sub.length_le;simp at this;omega
  walk_at "px";refine⟨_,_,rfl,by omega,by omega,?_⟩;generalize ox _ _=one;walk_at "go";have skip:∃(lg:List (Str×Int)) (a' b' c':Sl),[Sl.fz (D.lst (List.map D.int ns)),.fz (D.int most),.fz (D.int bV),.fz (D.lst (List.map D.str ws)),.fz (D.int W),.fz (D.lst (List.map D.int (List.drop 1 ns))),.fz (D.lst (gR.map dO)),.fz (D.lst (cE.map dO)),.fz (D.int bits),.fz (D.lst (fb.map D.str)),.fz (D.lst (right'.map D.str)),.fz (D.lst (bD.map D.str)),.ow (wide.map mx),.fz (D.int i),.fz (D.str x),.fz (D.int one),.un,.un]=[Sl.fz (D.lst (List.map D.int ns)),.fz (D.int most),.fz (D.int bV),.fz (D.lst (List.map D.str ws)),.fz (D.int W),.fz (D.lst (List.map D.int (List.drop 1 ns))),.fz (D.lst (gR.map dO)),.fz (D.lst (cE.map dO)),.fz (D.int bits),.fz (D.lst (fb.map D.str)),.fz (D.lst (right'.map D.str)),.fz (D.lst (bD.map D.str)),.ow (lg.map mx),a',b',c',.un,.un]/\List.Sublist (lg.map (·.1)) (ss.take (i+1))/\(∀p∈lg,(p.2=2\/p.2=3)/\1<eG gR cE fb right' p.1):=
   ⟨wide,_,_,_,rfl,by rw[tk];exact sub.trans (List.sublist_append_left _ _),wo⟩
  split
  ·refine⟨gR,cE,fb,right',x,rfl,by omega,?_⟩;walk_at "px";split
   ·rename_i hc;have e2:one/4%2=0\/one/4%2=1:=by omega
    refine⟨by omega,by simp;omega,wide++[(x,2+one/4%2)],_,_,_,by rw[aO];rfl,?_,fun p hp=>?_⟩
    ·rw[tk,aO];exact sub.append (List.Sublist.refl _)
    ·rcases aA.mp hp with h | h
     ·exact wo p h
     ·have:p=(x,2+one/4%2):=by simpa using h
      subst this;exact⟨by dsimp only;omega,by dsimp only;omega⟩
   ·exact skip
  ·exact skip
 rintro ρ ⟨wide,a,b,c,rfl,sub,wo⟩;rw[List.take_length] at sub;have oY:wide.length<=8:=by have:=sub.length_le;simp at this;omega
 have Ka:(wide.map (·.1)).Pairwise jC:=Kl.sublist sub;have ww:∀p∈wide,p.1∈ws/\(p.2=2\/p.2=3)/\1<eG gR cE fb right' p.1:=fun p h=>⟨hp.subset (sub.subset (List.mem_map_of_mem h)),wo p h⟩
 walk_at "go";refine⟨by omega,gR,cE,fb,right',ws,ns.drop 1,bV,rfl,by omega,by omega,by omega,by omega,hw.len,BR,by simp;omega,fun bB bo=>?_⟩;walk_at "go";refine⟨by omega,?_⟩;have fin:∀keeps,ix W keeps->Qr (R.ow [dP gR,dP cE,dS fb,dS right',dW wide,dB bB,dK keeps]):=fun keeps ko=>q ⟨gR,cE,fb,right',wide,bB,keeps⟩ ⟨by dsimp only;omega,by dsimp only;omega,by dsimp only;omega,BR,qc,KO,KL,KN,Ky,ml,Kx,yY,oY,Ka,ww,bo,by dsimp only;rw[cB];exact ko⟩
 walk_at "go";split
 ·refine⟨W,ns.drop 1,bV,rfl,by omega,by omega,fun keeps ko=>?_⟩;walk_at "go";exact⟨by omega,fin keeps ko⟩
 ·walk_at "go";exact⟨by omega,fin [] ⟨by simp,by simp⟩⟩
end Wc
namespace Wc
open PySem L2 PyProof.Rows
def rH:cI:=fun ds Q=>∃a b c d e f g:List D,ds=[.lst a,.lst b,.lst c,.lst d,.lst e,.lst f,.lst g]/\Q (.fz (.obj "Channel" [("top",.lst a),("bottom",.lst b),("left",.lst c),("right",.lst d),("wide",.lst e),("bends",.lst f),("keeps",.lst g)]))
def ux:px:=(mI "top" (cM kg (bh (a9 1) bx)) (mI "bottom" (cM kg (bh (a9 2) bx)) (mI "left" (cM kg (bh (a9 3) bx)) (mI "right" (cM kg (bh (a9 4) bx)) (mI "wide" (cM kg (bh (a9 5) bx)) (mI "bends" (cM kg (bh (a9 6) bx)) (mI "keeps" (cM kg (bh (a9 7) bx)) vt)))))))
theorem IJ(ds:List D)(Qr:R->Prop)(NA:List (Str×D)->Prop)(na:∀fs:List (Str×D),fs.map (·.1)=(["top","bottom","left","right","wide","bends","keeps"]:List Str)->NA fs)(h:rH ds Qr) :
  ux (nM ["self","top","bottom","left","right","wide","bends","keeps"] ds) [] fun fs=>NA fs/\Qr (.fz (.obj "Channel" fs)):=by
 obtain⟨a,b,c,d,e,f,g,rfl,q⟩:=h;show ux [.un,.fz (.lst a),.fz (.lst b),.fz (.lst c),.fz (.lst d),.fz (.lst e),.fz (.lst f),.fz (.lst g)] [] _;unfold ux;simp only[mI,vt,cM,bh,bx,a9,gt,kg,k7,pJ];exact⟨by decide,show 1<1000 by decide,show 2<1000 by decide,show 3<1000 by decide,show 4<1000 by decide,show 5<1000 by decide,show 6<1000 by decide,na _ rfl,q⟩
end Wc
namespace Wc
open PySem L2 PyProof.Rows
def ri:cI:=fun ds Q=>∃c:bE,ds=[.lst c.parts]/\Q (.fz c.obj)
def xk:TX:=(bH (cv 1 (et (fh (a9 0)) [none] (bW 0) gY (cM kg (bh (a9 0) bx))))
 (dr (dy 7 rH (bh (bj b9 (a9 1) (dC (.int 0))) (bh (bj b9 (a9 1) (dC (.int 1))) (bh (bj b9 (a9 1) (dC (.int 2))) (bh (bj b9 (a9 1) (dC (.int 3))) (bh (bj b9 (a9 1) (dC (.int 4))) (bh (bj b9 (a9 1) (dC (.int 5))) (bh (bj b9 (a9 1) (dC (.int 6))) bx))))))))))
theorem JE(ds:List D)(Qr:R->Prop)(hl:ds.length=1)(h:ri ds Qr):xk { nx:=fun _=>Qr (.fz .non),rt:=Qr } (eW ["_law_lists","_law_copies"] ds):=by
 obtain⟨c,rfl,q⟩:=h;show xk _ [.fz (.lst c.parts),.un];unfold xk;walk_at "px";refine kq c.parts id id (fun Q' h=>?_) (by rw[gP];show 7<=16777216;decide) (fun d hd K1 k=>?_) ?_
 ·walk_at "px";rw[List.map_id] at h;exact h
 ·walk_at "px";simp only[bE.parts,ai,aB,or_false] at hd;rcases hd with rfl | rfl | rfl | rfl | rfl | rfl | rfl<;>exact k
 ·rw[List.map_id];walk_at "go";unfold bE.parts;exact⟨_,rfl,_,rfl,_,rfl,_,rfl,_,rfl,_,rfl,_,rfl,_,_,_,_,_,_,_,rfl,q⟩
def rF:cI:=fun ds Q=>∃c:bE,ds=[c.obj,.lst c.parts]/\Q (.fz (.bl true))
def xu:TX:=(bH (cv 2 (ff (bh (fP "top" (a9 0)) (bh (fP "bottom" (a9 0)) (bh (fP "left" (a9 0)) (bh (fP "right" (a9 0)) (bh (fP "wide" (a9 0)) (bh (fP "bends" (a9 0)) (bh (fP "keeps" (a9 0)) bx)))))))))
 (dr (bj oEq (a9 2) (a9 1))))
theorem JD(ds:List D)(Qr:R->Prop)(hl:ds.length=2)(h:rF ds Qr):xu { nx:=fun _=>Qr (.fz .non),rt:=Qr } (eW ["_law_channel_here","_law_lists","_law_told"] ds):=by
 obtain⟨c,rfl,q⟩:=h;show xu _ [.fz c.obj,.fz (.lst c.parts),.un];unfold xu;unfold bE.obj;walk_at "px";refine⟨_,rfl,_,rfl,_,rfl,_,rfl,_,rfl,_,rfl,_,rfl,by rw[gP];decide,?_⟩;walk_at "go";have ok:=GZ c;refine⟨ok.mono (by decide),ok.mono (by decide),?_⟩;show Qr (.fz (.bl (bz (.lst c.parts) (.lst c.parts))));rw[pU 3 _ ok];exact q
end Wc
namespace Wc
open PySem L2 PyProof.Rows
end Wc
open PySem L2 PyProof.Rows Wc
local macro_rules | `(tactic| walk_at "px")=>`(tactic| (repeat(first | walk_at "b" | simp only[mS,rJ,oA,k6,qI,zu])))
namespace Wc
open PySem L2 PyProof.Rows
inductive En where
 | lf | tp (n:Nat) | bt (n:Nat) | rt
noncomputable def dE:En->D
 | .lf=>.tup [.str "left"]
 | .tp n=>.tup [.str "top",.int n]
 | .bt n=>.tup [.str "bottom",.int n]
 | .rt=>.tup [.str "right"]
noncomputable def kM(c:bE)(w:Str)(n:Nat):List En:=(if c.top[n]?=some (some w) then [.tp n] else [])++(if c.aZ[n]?=some (some w) then [.bt n] else [])
noncomputable def kZ(c:bE)(w:Str):List En:=(if w∈c.left then [.lf] else [])++(List.range c.top.length).flatMap (kM c w)++(if w∈c.right then [.rt] else [])
theorem Hy(c:bE)(w:Str)(n:Nat):(kM c w n).length<=2:=by unfold kM;split<;>split<;>simp
theorem wB(c:bE)(w:Str)(i:Nat):((List.range i).flatMap (kM c w)).length<=2*i:=by
 induction i with
 | zero=>simp
 | succ i ih=>
  rw[List.range_succ,List.flatMap_append,au];have:=Hy c w i;simp only[List.flatMap_cons,List.flatMap_nil,List.append_nil];omega
structure kD (c:bE):Prop where
 w:c.top.length<=40
 b:c.aZ.length=c.top.length
 l:c.left.length<=100
 r:c.right.length<=100
def rG:cI:=fun ds Q=>∃(c:bE) (w:Str),ds=[c.obj,.str w]/\kD c/\Q (.ow ((kZ c w).map dE))
def wR:TX:=(bH (kb 2 (ff bx))
 (bH (dU (bZ (bj (iF false) (a9 1) (fP "left" (a9 0)))) (iE 2 (g7 (bh (dC (.str "left")) bx))) eh)
 (bH (gZ (kh (bh (cM gX (bh (fP "top" (a9 0)) bx)) bx)) (bW 3) (bH (dU (bZ (bj oEq (bj b9 (fP "top" (a9 0)) (a9 3)) (a9 1))) (iE 2 (g7 (bh (dC (.str "top")) (bh (a9 3) bx)))) eh)
 (dU (bZ (bj oEq (bj b9 (fP "bottom" (a9 0)) (a9 3)) (a9 1))) (iE 2 (g7 (bh (dC (.str "bottom")) (bh (a9 3) bx)))) eh)))
 (bH (dU (bZ (bj (iF false) (a9 1) (fP "right" (a9 0)))) (iE 2 (g7 (bh (dC (.str "right")) bx))) eh)
 (nJ 2)))))
theorem II(ds:List D)(Qr:R->Prop)(hl:ds.length=2)(h:rG ds Qr):wR { nx:=fun _=>Qr (.fz .non),rt:=Qr } (eW ["channel","name","ends","column"] ds):=by
 obtain⟨c,w,rfl,sh,q⟩:=h;show wR _ [.fz c.obj,.fz (.str w),.un,.un];unfold wR;have big:=gP;unfold bE.obj;walk_at "px";refine⟨by omega,?_⟩;walk_at "go";refine⟨_,rfl,?_⟩;unfold dS;walk_at "px";refine⟨nR 8 _,?_⟩;have obj:D.obj (Str.ofString "Channel") [(Str.ofString "top",dP c.top),(Str.ofString "bottom",dP c.aZ),(Str.ofString "left",D.lst (c.left.map D.str)),(Str.ofString "right",D.lst (c.right.map D.str)),(Str.ofString "wide",dW c.wide),(Str.ofString "bends",dB c.bB),(Str.ofString "keeps",dK c.keeps)]=c.obj:=rfl;rw[obj];have eU:∀k:Sl,nF (bH (gZ (kh (bh (cM gX (bh (fP "top" (a9 0)) bx)) bx)) (bW 3) (bH (dU (bZ (bj oEq (bj b9 (fP "top" (a9 0)) (a9 3)) (a9 1))) (iE 2 (g7 (bh (dC (.str "top")) (bh (a9 3) bx)))) eh)
 (dU (bZ (bj oEq (bj b9 (fP "bottom" (a9 0)) (a9 3)) (a9 1))) (iE 2 (g7 (bh (dC (.str "bottom")) (bh (a9 3) bx)))) eh)))
 (bH (dU (bZ (bj (iF false) (a9 1) (fP "right" (a9 0)))) (iE 2 (g7 (bh (dC (.str "right")) bx))) eh)
 (nJ 2))) { nx:=fun x=>Qr (R.fz D.non),rt:=Qr } [.fz c.obj,.fz (.str w),.ow ((if w∈c.left then [En.lf] else []).map dE),k]:=by
  intro k;walk_at "go";refine p7 c.top.length (fun Q' h=>?_) (fun i ρ=>∃k:Sl,ρ=[.fz c.obj,.fz (.str w),.ow (((if w∈c.left then [En.lf] else [])++(List.range i).flatMap (kM c w)).map dE),k]) ⟨k,by simp⟩ ?_ ?_
  ·unfold bE.obj;walk_at "px";refine⟨_,rfl,?_⟩;unfold dP;walk_at "px";rw[af];have:=sh.w;exact⟨by omega,by omega,by simpa using h⟩
  ·rintro i ρ hi ⟨k,rfl⟩;have hle:=wB c w i;have hw:=sh.w;have yy:∀(b:Prop) [Decidable b],(if b then [En.lf] else []).length<=1:=fun b _=>by split<;>simp
   have j3:=yy (w∈c.left);rw[List.range_succ,List.flatMap_append,<-List.append_assoc];generalize f6:(if w∈c.left then [En.lf] else [])++(List.range i).flatMap (kM c w)=acc;have qp:acc.length<=1000:=by rw[<-f6,au];omega
   simp only[List.flatMap_cons,List.flatMap_nil,List.append_nil];have Ce:i<c.aZ.length:=by rw[sh.b];exact hi
   unfold bE.obj;walk_at "px";refine⟨_,rfl,?_⟩;unfold dP;walk_at "px";refine⟨_,kn hi,?_⟩;unfold kM;rw[ar hi,ar Ce];simp only[aV];split
   focus refine⟨by omega,by simp;omega,?_⟩
   all_goals
    walk_at "go";refine⟨_,rfl,?_⟩;walk_at "px";refine⟨_,kn Ce,?_⟩;split
   ·exact⟨by omega,by simp;omega,_,by simp[dE];rfl⟩
   ·exact⟨_,by simp[dE];rfl⟩
   ·exact⟨by omega,by simp;omega,_,by simp[dE];rfl⟩
   ·exact⟨_,by simp;rfl⟩
  ·rintro ρ ⟨k,rfl⟩;have hle:=wB c w c.top.length;have hw:=sh.w;have yy:∀(b:Prop) [Decidable b],(if b then [En.lf] else []).length<=1:=fun b _=>by split<;>simp
   have j3:=yy (w∈c.left);unfold kZ at q;generalize f6:(if w∈c.left then [En.lf] else [])++(List.range c.top.length).flatMap (kM c w)=acc at q ⊢;have qp:acc.length<=1000:=by rw[<-f6,au];omega
   unfold bE.obj;walk_at "go";refine⟨_,rfl,?_⟩;unfold dS;walk_at "px";refine⟨nR 8 _,?_⟩;by_cases hr:w∈c.right
   ·rw[if_pos hr];rw[if_pos hr,aO] at q;refine⟨by omega,by simp;omega,?_⟩;walk_at "go";exact q
   ·rw[if_neg hr];rw[if_neg hr,List.append_nil] at q;walk_at "go";exact q
 by_cases hc:w∈c.left
 ·rw[if_pos hc];refine⟨by omega,by omega,?_⟩;have:=eU .un;rw[if_pos hc] at this;exact this
 ·rw[if_neg hc];have:=eU .un;rw[if_neg hc] at this;exact this
end Wc
namespace Wc
open PySem L2 PyProof.Rows
noncomputable def kH(c:bE):En->Int
 | .lf=>-1
 | .tp n=>n
 | .bt n=>n
 | .rt=>c.top.length
def rE:cI:=fun ds Q=>∃(c:bE) (e:En),ds=[c.obj,dE e]/\Q (.fz (.int (kH c e)))
def xt:TX:=(bH (dU (bZ (bj oEq (bj b9 (a9 1) (dC (.int 0))) (dC (.str "left")))) (dr (pD (dC (.int 1)))) eh)
 (bH (dU (bZ (bj oEq (bj b9 (a9 1) (dC (.int 0))) (dC (.str "right")))) (dr (cM gX (bh (fP "top" (a9 0)) bx))) eh)
 (dr (bj b9 (a9 1) (dC (.int 1))))))
theorem Jd(ds:List D)(Qr:R->Prop)(hl:ds.length=2)(h:rE ds Qr):xt { nx:=fun _=>Qr (.fz .non),rt:=Qr } (eW ["channel","end"] ds):=by
 obtain⟨c,e,rfl,q⟩:=h;show xt _ [.fz c.obj,.fz (dE e)];unfold xt;have n1:¬(Str.ofString "top"=Str.ofString "left"):=by decide +kernel
 have n2:¬(Str.ofString "bottom"=Str.ofString "left"):=by decide +kernel
 have n3:¬(Str.ofString "right"=Str.ofString "left"):=by decide +kernel
 have n4:¬(Str.ofString "top"=Str.ofString "right"):=by decide +kernel
 have n5:¬(Str.ofString "bottom"=Str.ofString "right"):=by decide +kernel
 cases e with
 | lf=>
  unfold dE;walk_at "px";refine⟨_,rfl,?_⟩;walk_at "px";exact q
 | tp n=>
  unfold dE;walk_at "px";refine⟨_,rfl,?_⟩;walk_at "px";rw[if_neg n1];walk_at "go";refine⟨_,rfl,?_⟩;walk_at "px";rw[if_neg n4];walk_at "go";exact⟨_,rfl,q⟩
 | bt n=>
  unfold dE;walk_at "px";refine⟨_,rfl,?_⟩;walk_at "px";rw[if_neg n2];walk_at "go";refine⟨_,rfl,?_⟩;walk_at "px";rw[if_neg n5];walk_at "go";exact⟨_,rfl,q⟩
 | rt=>
  unfold dE;walk_at "px";refine⟨_,rfl,?_⟩;walk_at "px";rw[if_neg n3];walk_at "go";refine⟨_,rfl,?_⟩;walk_at "px";unfold bE.obj;walk_at "px";refine⟨_,rfl,?_⟩;unfold dP;walk_at "px";rw[af];exact q
noncomputable def pl(c:bE)(w:Str):List Int:=
 (if w∈c.left then [-1] else [])++(((List.range c.top.length).filter fun n=>c.top[n]?==some (some w)||c.aZ[n]?==some (some w)).map fun(n:Nat)=>(n:Int))++(if w∈c.right then [(c.top.length:Int)] else [])
theorem zA(c:bE)(w:Str):(pl c w).Pairwise (·<·):=by
 unfold pl;have o6:∀x∈(((List.range c.top.length).filter fun n=>c.top[n]?==some (some w)||c.aZ[n]?==some (some w)).map fun(n:Nat)=>(n:Int)),0<=x/\x<c.top.length:=by
  intro x hx;rw[aF] at hx;obtain⟨n,hn,rfl⟩:=hx;rw[List.mem_filter,List.mem_range] at hn;omega
 have lC:(((List.range c.top.length).filter fun n=>c.top[n]?==some (some w)||c.aZ[n]?==some (some w)).map fun(n:Nat)=>(n:Int)).Pairwise (·<·):=by
  rw[List.pairwise_map];refine List.Pairwise.imp ?_ (List.Pairwise.filter _ List.pairwise_lt_range);intro a b h;omega
 generalize (((List.range c.top.length).filter fun n=>c.top[n]?==some (some w)||c.aZ[n]?==some (some w)).map fun(n:Nat)=>(n:Int))=mid at o6 lC;rw[List.pairwise_append,List.pairwise_append];refine⟨⟨by split<;>simp,lC,fun a ha b hb=>?_⟩,by split<;>simp,fun a ha b hb=>?_⟩
 ·split at ha
  ·have:=o6 b hb;simp at ha;omega
  ·cases ha
 ·split at hb
  ·rcases aA.mp ha with ha | ha
   ·split at ha
    ·simp at ha hb;omega
    ·cases ha
   ·have:=o6 a ha;simp at hb;omega
  ·cases hb
theorem F7(c:bE)(w:Str)(k:Int):k∈(kZ c w).map (kH c)↔k∈pl c w:=by
 unfold kZ pl;simp only[aO,aA];have h1:k∈(if w∈c.left then [En.lf] else []).map (kH c)↔k∈(if w∈c.left then [(-1:Int)] else []):=by split<;>simp[kH]
 have h3:k∈(if w∈c.right then [En.rt] else []).map (kH c)↔k∈(if w∈c.right then [(c.top.length:Int)] else []):=by split<;>simp[kH]
 rw[h1,h3];have h2:k∈((List.range c.top.length).flatMap (kM c w)).map (kH c)↔k∈(((List.range c.top.length).filter fun n=>c.top[n]?==some (some w)||c.aZ[n]?==some (some w)).map fun(n:Nat)=>(n:Int)):=by
  simp only[aF,List.mem_flatMap,List.mem_range,List.mem_filter,Bool.or_eq_true,beq_iff_eq];constructor
  ·rintro⟨e,⟨n,hn,he⟩,rfl⟩;unfold kM at he;rcases aA.mp he with h | h
   ·split at h
    ·rename_i ht;simp at h;subst h;exact⟨n,⟨hn,.inl ht⟩,rfl⟩
    ·cases h
   ·split at h
    ·rename_i hb;simp at h;subst h;exact⟨n,⟨hn,.inr hb⟩,rfl⟩
    ·cases h
  ·rintro⟨n,⟨hn,ht | hb⟩,rfl⟩
   ·exact⟨.tp n,⟨n,hn,by simp[kM,ht]⟩,rfl⟩
   ·exact⟨.bt n,⟨n,hn,by simp[kM,hb]⟩,rfl⟩
 rw[h2]
noncomputable def qG:List Int->D
 | []=>.non
 | a::r=>if a=(a::r).getLast (by simp) then .non else .tup [.int a,.int ((a::r).getLast (by simp))]
def rn:cI:=fun ds Q=>∃(c:bE) (w:Str),ds=[c.obj,.str w]/\kD c/\Q (.fz (qG (pl c w)))
def xq:TX:=(bH (cv 2 (et (fh (dy 2 rG (bh (a9 0) (bh (a9 1) bx)))) [none,some 0] (bW 0) gY (dy 2 rE (bh (a9 1) (bh (a9 0) bx)))))
 (bH (dU (bZ (bj (jW fun i j=>.bl (decide (i<j))) (cM ug (bh (a9 2) bx)) (dC (.int 2)))) (dr (dC .non)) eh)
 (dr (g7 (bh (cM pB (bh (a9 2) bx)) (bh (cM my (bh (a9 2) bx)) bx))))))
theorem wA{a:Int}{r:List Int}(h:(a::r).Pairwise (·<·)):∀x∈a::r,x<=(a::r).getLast (by simp):=by
 induction r generalizing a with
 | nil=>intro x hx;simp at hx;simp[hx]
 | cons b r ih=>
  intro x hx;rw[List.pairwise_cons] at h;rw[List.getLast_cons (by simp)];rcases ai.mp hx with rfl | hx
  ·have:=h.1 b (by simp);have:=ih h.2 b (by simp);omega
  ·exact ih h.2 x hx
theorem Jz(ds:List D)(Qr:R->Prop)(hl:ds.length=2)(h:rn ds Qr):xq { nx:=fun _=>Qr (.fz .non),rt:=Qr } (eW ["channel","name","columns"] ds):=by
 obtain⟨c,w,rfl,sh,q⟩:=h;show xq _ [.fz c.obj,.fz (.str w),.un];unfold xq;have big:=gP;walk_at "px";have Mv:(kZ c w).length<=2*c.top.length+2:=by
  unfold kZ;simp only[au];have:=wB c w c.top.length;have a:∀(b:Prop) [Decidable b] (x:En),(if b then [x] else []).length<=1:=fun b _ x=>by split<;>simp
  have a1:=a (w∈c.left) .lf;have a2:=a (w∈c.right) .rt;omega
 have hw:=sh.w;refine kq (kZ c w) dE (fun e=>.int (kH c e)) (fun Q' h=>?_) (by omega) (fun e he K1 k=>?_) ?_
 ·walk_at "px";exact⟨c,w,rfl,sh,h⟩
 ·walk_at "px";exact⟨c,e,rfl,k⟩
 have e0:(kZ c w).map (fun e=>D.int (kH c e))=((kZ c w).map (kH c)).map D.int:=by simp
 rw[e0];have hm:=F7 c w;have lC:=zA c w;have qj:(pl c w).Nodup:=lC.imp fun h=>by omega
 have iJ:((kZ c w).map (kH c)).length<=1000:=by rw[af];omega
 generalize (kZ c w).map (kH c)=cols at hm iJ ⊢;generalize pl c w=p at hm lC qj q ⊢;walk_at "go";simp only[ug,pY];refine⟨by omega,fun l ln lm=>?_⟩;have ck:l.Perm p:=(List.perm_ext_iff_of_nodup ln qj).mpr fun k=>by rw[lm,hm]
 have hlen:=ck.length_eq;walk_at "px";match p,lC,hm,hlen,q with
 | [],_,_,hlen,q=>
  rw[if_pos (by rw[hlen];decide)];exact q
 | [a],_,_,hlen,q=>
  rw[if_pos (by rw[hlen];simp)];simpa[qG] using q
 | a::b::r,lC,hm,hlen,q=>
  rw[if_neg (by rw[hlen];simp only[aw];omega)];walk_at "go";simp only[pB,my,pY];have cH:cols≠[]:=fun z=>by have:=(hm a).mpr (by simp);rw[z] at this;cases this
  refine⟨cH,fun m kB gV=>⟨cH,fun M yP yO=>⟨by omega,?_⟩⟩⟩;have em:m=a:=by
   have h1:=gV a ((hm a).mpr (by simp));have h2:=(hm m).mp kB;rcases ai.mp h2 with h | h
   ·exact h
   ·have:=(List.pairwise_cons.mp lC).1 m h;omega
  have eM:M=(a::b::r).getLast (by simp):=by
   have h1:=yO _ ((hm _).mpr (List.getLast_mem (by simp:a::b::r≠[])));have h2:=wA lC M ((hm M).mp yP);omega
  have dg:a<(a::b::r).getLast (by simp):=by
   have h1:=(List.pairwise_cons.mp lC).1 b (by simp);have h2:=wA lC b (by simp);omega
  subst em eM;simp only[qG] at q;rw[if_neg (by omega)] at q;exact q
end Wc
namespace Wc
open PySem L2 PyProof.Rows
def fZ(c:bE)(w:Str):Prop:=some w∈c.top\/some w∈c.aZ\/w∈c.left\/w∈c.right
def oH:cI:=fun ds Q=>∃(c:bE) (ws:List Str),ds=[c.obj]/\kD c/\ws.length<=40/\(∀w,fZ c w->w∈ws)/\∀l:List Str,l.Nodup->(∀w,w∈l↔fZ c w)->sortedS l=true->Q (.ow (l.map D.str))
def wQ:TX:=(bH (cv 1 (et (fh (bj cR (fP "top" (a9 0)) (fP "bottom" (a9 0)))) [none] (bW 0) (bZ (bj (mF true) (a9 0) (dC .non))) (a9 0)))
 (dr (cM uF (bh (bj cR (bj cR (a9 1) (fP "left" (a9 0))) (fP "right" (a9 0))) bx))))
theorem uw{l ws:List Str}(nd:l.Nodup)(h:∀w∈l,w∈ws):l.length<=ws.length:=by
 induction l generalizing ws with
 | nil=>simp
 | cons a r ih=>
  rw[aX] at nd;have ha:a∈ws:=h a (by simp);have:=ih (ws:=ws.erase a) nd.2 fun w hw=>(List.mem_erase_of_ne fun(z:w=a)=>nd.1 (z▸hw)).mpr (h w (by simp[hw]))
  rw[List.length_erase_of_mem ha] at this;have hp:0<ws.length:=List.length_pos_of_mem ha;simp only[aw];omega
theorem IH(ds:List D)(Qr:R->Prop)(hl:ds.length=1)(h:oH ds Qr):wQ { nx:=fun _=>Qr (.fz .non),rt:=Qr } (eW ["channel","pins"] ds):=by
 obtain⟨c,ws,rfl,sh,ik,hm,q⟩:=h;show wQ _ [.fz c.obj,.un];unfold wQ bE.obj;have big:=gP;have hw:=sh.w;have hb:=sh.b;walk_at "px";refine mh (c.top++c.aZ) dO dO (fun x=>x.isSome) (fun Q' h=>?_) (by simp;omega) (fun x hx K1 K0 k1 k0=>?_) ?_
 ·walk_at "px";refine⟨_,rfl,_,rfl,?_⟩;unfold dP;walk_at "px";refine⟨by simp;omega,?_⟩;rw[aO] at h;exact h
 ·walk_at "px";cases x with
  | none=>exact k0 rfl
  | some x=>exact k1 rfl
 have e0:∀L:List (Option Str),((L.filter fun x=>x.isSome).map dO)=(L.filterMap id).map D.str:=by
  intro L;induction L with
  | nil=>rfl
  | cons a r ih=>cases a<;>simp_all[dO]
 rw[e0];have dA:((c.top++c.aZ).filterMap id).length<=100:=by
  refine aJ (List.length_filterMap_le _ _) ?_;simp;omega
 have mr:∀w,w∈(c.top++c.aZ).filterMap id↔some w∈c.top\/some w∈c.aZ:=by
  intro w;simp[List.mem_filterMap]
 generalize (c.top++c.aZ).filterMap id=pins at dA mr ⊢;walk_at "go";refine⟨_,rfl,?_⟩;unfold dS;walk_at "px";have yw:=sh.l;have Mq:=sh.r;refine⟨by simp;omega,_,rfl,?_⟩;walk_at "px";refine⟨by simp;omega,?_⟩;rw[<-aO,<-aO];simp only[uF,rK];have mm:∀w,w∈pins++c.left++c.right↔fZ c w:=by
  intro w;simp only[aA,mr,fZ];constructor
  ·rintro(((h | h) | h) | h)
   ·exact .inl h
   ·exact .inr (.inl h)
   ·exact .inr (.inr (.inl h))
   ·exact .inr (.inr (.inr h))
  ·rintro(h | h | h | h)
   ·exact .inl (.inl (.inl h))
   ·exact .inl (.inl (.inr h))
   ·exact .inl (.inr h)
   ·exact .inr h
 refine⟨by simp;omega,fun l nd h=>?_,fun l nd h hs=>q l nd (fun w=>by rw[h,mm]) hs⟩;have:=uw nd fun w hw=>hm w ((mm w).mp (h w hw))
 omega
noncomputable def ju:List (Str×Int)->Str->Int
 | [],_=>1
 | p::r,w=>if p.1=w then p.2 else ju r w
def pV:cI:=fun ds Q=>∃(c:bE) (w:Str),ds=[c.obj,.str w]/\Q (.fz (.int (ju c.wide w)))
def w8:TX:=(bH (gZ (fh (fP "wide" (a9 0))) (g6 2 (de (bW 2) (de (bW 3) gh))) (dU (bZ (bj oEq (a9 2) (a9 1))) (dr (a9 3)) eh))
 (dr (dC (.int 1))))
theorem Ji(ds:List D)(Qr:R->Prop)(hl:ds.length=2)(h:pV ds Qr):w8 { nx:=fun _=>Qr (.fz .non),rt:=Qr } (eW ["channel","name","wide_name","width"] ds):=by
 obtain⟨c,w,rfl,q⟩:=h;show w8 _ [.fz c.obj,.fz (.str w),.un,.un];unfold w8;walk_at "px";refine qX c.wide mx (fun Q' h=>?_) (fun i ρ=>∃a b:Sl,ρ=[.fz c.obj,.fz (.str w),a,b]/\ju c.wide w=ju (c.wide.drop i) w) ⟨_,_,rfl,rfl⟩ ?_ ?_
 ·unfold bE.obj;walk_at "px";exact⟨_,rfl,h⟩
 ·rintro i x ρ hx ⟨a,b,rfl,hd⟩;obtain⟨hi,jX⟩:=ax.mp hx;rw[List.drop_eq_getElem_cons hi,jX] at hd;unfold mx;walk_at "px";by_cases hw:x.1=w
  ·rw[if_pos hw];simp only[ju,if_pos hw] at hd;rw[hd] at q;exact q
  ·rw[if_neg hw];simp only[ju,if_neg hw] at hd;exact⟨_,_,rfl,hd⟩
 ·rintro ρ ⟨a,b,rfl,hd⟩;rw[List.drop_length] at hd;simp only[ju] at hd;rw[hd] at q;walk_at "go";exact q
end Wc
namespace Wc
open PySem L2 PyProof.Rows
end Wc
open PySem L2 PyProof.Rows Wc
local macro_rules | `(tactic| walk_at "px")=>`(tactic| (repeat(first | walk_at "b" | simp only[mS,rJ,oA,k6])))
namespace Wc
open PySem L2 PyProof.Rows
structure Pc where
 n:Option Str
 l:Int
 r:Int
 k:Int
 deriving DecidableEq
noncomputable def eF(p:Pc):D:=.tup [dO p.n,.int p.l,.int p.r,.int p.k]
noncomputable def kW(ps:List Pc):D:=.lst (ps.map eF)
theorem Ej(n:Nat)(p:Pc):bQ (n+1) (eF p):=by
 intro d hd;simp only[ai,aB,or_false] at hd;rcases hd with rfl | rfl | rfl | rfl
 ·rw[k6];trivial
 all_goals (rw[qS];trivial)
end Wc
namespace Wc
open PySem L2 PyProof.Rows
end Wc
open PySem L2 PyProof.Rows Wc
local macro_rules | `(tactic| walk_at "px")=>`(tactic| (repeat(first | walk_at "b" | simp only[mS,rJ,oA,k6,pF,tL])))
namespace Wc
open PySem L2 PyProof.Rows
noncomputable def ou:List Int->Option (Int×Int)
 | []=>none
 | a::r=>if a=(a::r).getLast (by simp) then none else some (a,(a::r).getLast (by simp))
theorem Ei(p:List Int):qG p=match ou p with | none=>.non | some q=>.tup [.int q.1,.int q.2]:=by
 cases p with
 | nil=>rfl
 | cons a r=>
  simp only[qG,ou];by_cases h:a=(a::r).getLast (by simp)
  ·rw[if_pos h,if_pos h]
  ·rw[if_neg h,if_neg h]
noncomputable def ia(c:bE)(w:Str):List Int:=(c.bB.filter fun p=>decide (p.2=w)).map (·.1)
def rN:cI:=fun ds Q=>∃(c:bE) (w:Str),ds=[c.obj,.str w]/\c.bB.length<=100/\Q (.ow ((ia c w).map D.int))
def xw:TX:=(dr (et (fh (fP "bends" (a9 0))) [none,none,some 1] (g6 2 (de (bW 0) (de (bW 1) gh))) (bZ (bj oEq (a9 1) (a9 2))) (a9 0)))
theorem JW(ds:List D)(Qr:R->Prop)(hl:ds.length=2)(h:rN ds Qr):xw { nx:=fun _=>Qr (.fz .non),rt:=Qr } (eW ["channel","name"] ds):=by
 obtain⟨c,w,rfl,hb,q⟩:=h;show xw _ [.fz c.obj,.fz (.str w)];unfold xw;have big:=gP;walk_at "px";refine mh c.bB j6 (fun p=>.int p.1) (fun p=>decide (p.2=w)) (fun Q' h=>?_) (by omega) (fun p hp K1 K0 k1 k0=>?_) ?_
 ·unfold bE.obj;walk_at "px";exact⟨_,rfl,h⟩
 ·unfold j6;walk_at "px";by_cases h1:p.2=w
  ·rw[if_pos h1];exact k1 (by simpa using h1)
  ·rw[if_neg h1];exact k0 (by simpa using h1)
 ·unfold ia at q;rw[List.map_map] at q;exact q
noncomputable def hZ(w:Str)(k:Int)(bs:List Int):List Pc:=(bs.zip (bs.drop 1)).map fun p=>⟨some w,p.1,p.2,k⟩
noncomputable def fm(c:bE)(bent:Bool)(w:Str):List Pc:=match ou (pl c w) with
 | none=>[]
 | some p=>hZ w (ju c.wide w) ([p.1]++(if bent then ia c w else [])++[p.2])
def oJ:cI:=fun ds Q=>∃(c:bE) (w:Str) (bent:Bool),ds=[c.obj,.str w,.bl bent]/\kD c/\c.bB.length<=100/\Q (.ow ((fm c bent w).map eF))
def xp:TX:=(bH (cv 3 (dy 2 rn (bh (a9 0) (bh (a9 1) bx))))
 (bH (dU (bZ (bj (mF false) (a9 3) (dC .non))) (dr (ff bx)) eh)
 (bH (cv 4 (qu (bZ (a9 2)) (dy 2 rN (bh (a9 0) (bh (a9 1) bx))) (ff bx)))
 (bH (cv 5 (bj cR (bj cR (ff (bh (bj b9 (a9 3) (dC (.int 0))) bx)) (a9 4)) (ff (bh (bj b9 (a9 3) (dC (.int 1))) bx))))
 (bH (cv 6 (dy 2 pV (bh (a9 0) (bh (a9 1) bx))))
 (dr (et (pF (bh (a9 5) (bh (iM (a9 5) (hJ (dC (.int 1))) jt) bx))) [none,none,some 1,some 6] (g6 2 (de (bW 0) (de (bW 1) gh))) gY (g7 (bh (a9 2) (bh (a9 0) (bh (a9 1) (bh (a9 3) bx))))))))))))
theorem GX(a b:List Int):nG (a.map D.int) (b.map D.int)=(a.zip b).map fun p=>.tup [.int p.1,.int p.2]:=by
 unfold nG;rw[List.zipWith_map];induction a generalizing b with
 | nil=>rfl
 | cons x r ih=>cases b with
  | nil=>rfl
  | cons y s=>rw[List.zipWith_cons_cons,List.zip_cons_cons,av,ih]
theorem Jy(ds:List D)(Qr:R->Prop)(hl:ds.length=3)(h:oJ ds Qr):xp { nx:=fun _=>Qr (.fz .non),rt:=Qr } (eW ["channel","name","bent","stretch","cuts","borders","width"] ds):=by
 obtain⟨c,w,bent,rfl,sh,hb,q⟩:=h;show xp _ [.fz c.obj,.fz (.str w),.fz (.bl bent),.un,.un,.un,.un];unfold xp;have big:=gP;walk_at "px";refine⟨c,w,rfl,sh,?_⟩;rw[Ei];unfold fm at q;generalize ou (pl c w)=st at q ⊢;cases st with
 | none=>
  walk_at "go";exact⟨by omega,q⟩
 | some p=>
  walk_at "go";have u6:(if bent then ia c w else []).length<=100:=by
   split
   ·unfold ia;rw[af];exact aJ (List.length_filter_le _ _) hb
   ·simp
  have fin:∀cs:List Int,cs=(if bent then ia c w else [])->nF (bH (cv 5 (bj cR (bj cR (ff (bh (bj b9 (a9 3) (dC (.int 0))) bx)) (a9 4)) (ff (bh (bj b9 (a9 3) (dC (.int 1))) bx))))
 (bH (cv 6 (dy 2 pV (bh (a9 0) (bh (a9 1) bx))))
 (dr (et (pF (bh (a9 5) (bh (iM (a9 5) (hJ (dC (.int 1))) jt) bx))) [none,none,some 1,some 6] (g6 2 (de (bW 0) (de (bW 1) gh))) gY (g7 (bh (a9 2) (bh (a9 0) (bh (a9 1) (bh (a9 3) bx))))))))) { nx:=fun _=>Qr (.fz .non),rt:=Qr } [.fz c.obj,.fz (.str w),.fz (.bl bent),.fz (.tup [.int p.1,.int p.2]),.fz (.lst (cs.map D.int)),.un,.un]:=by
   intro cs u5;rw[<-u5] at q u6;walk_at "go";refine⟨.int p.1,rfl,by omega,by simp;omega,.int p.2,rfl,by omega,by simp;omega,?_⟩;walk_at "go";refine⟨c,w,rfl,?_⟩;walk_at "go";have eb:(D.int p.1::(List.map D.int cs++[D.int p.2]))=([p.1]++cs++[p.2]).map D.int:=by simp
   simp only[eb];have yJ:([p.1]++cs++[p.2]).length<=102:=by simp;omega
   dsimp only at q;generalize [p.1]++cs++[p.2]=bs at q yJ ⊢;refine kq (bs.zip (bs.drop 1)) (fun p=>.tup [.int p.1,.int p.2]) (fun p=>eF ⟨some w,p.1,p.2,ju c.wide w⟩) (fun Q' h=>?_) (by simp;omega) (fun x hx K1 k=>?_) ?_
   ·walk_at "px";rw[uy _ (by decide)];have e1:Int.toNat 1=1:=rfl;rw[GX];exact h
   ·walk_at "px";exact⟨by omega,k⟩
   ·unfold hZ at q;rw[List.map_map] at q;exact q
  cases bent with
  | true=>
   walk_at "go";refine⟨c,w,rfl,hb,?_⟩;exact fin _ rfl
  | false=>
   walk_at "go";exact⟨by omega,fin [] rfl⟩
structure lU (c:bE) (l:List Str):Prop where
 nd:l.Nodup
 mem:∀w,w∈l↔fZ c w
 r8:sortedS l=true
noncomputable def iP(c:bE):List Pc:=c.keeps.map fun k=>⟨none,k.1,k.2.1,k.2.2⟩
noncomputable def gy(c:bE)(bent:Bool)(l:List Str):List Pc:=iP c++l.flatMap (fm c bent)
theorem AY(c:bE)(bent:Bool)(w:Str):(fm c bent w).length<=c.bB.length+1:=by
 unfold fm;split
 ·simp
 ·unfold hZ;have:(ia c w).length<=c.bB.length:=by unfold ia;rw[af];exact List.length_filter_le _ _
  have:(if bent then ia c w else []).length<=c.bB.length:=by split<;>simp[*]
  simp;omega
theorem F6{α β:Type}(f:α->List β)(k:Nat)(h:∀a,(f a).length<=k):∀l:List α,(l.flatMap f).length<=l.length*k:=by
 intro l;induction l with
 | nil=>simp
 | cons a r ih=>
  rw[List.flatMap_cons,au,aw,Nat.succ_mul];have:=h a;omega
def oK:cI:=fun ds Q=>∃(c:bE) (bent:Bool) (ws:List Str),ds=[c.obj,.bl bent]/\kD c/\c.bB.length<=100/\c.keeps.length<=100/\ws.length<=40/\(∀w,fZ c w->w∈ws)/\∀l,lU c l->Q (.ow ((gy c bent l).map eF))
def uD:TX:=(bH (kb 2 (et (fh (fP "keeps" (a9 0))) [none,none,none] (g6 3 (de (bW 0) (de (bW 1) (de (bW 2) gh)))) gY (g7 (bh (dC .non) (bh (a9 0) (bh (a9 1) (bh (a9 2) bx)))))))
 (bH (gZ (fh (dy 1 oH (bh (a9 0) bx))) (bW 3) (tL 2 (dy 3 oJ (bh (a9 0) (bh (a9 3) (bh (a9 1) bx))))))
 (nJ 2)))
theorem Jc(ds:List D)(Qr:R->Prop)(hl:ds.length=2)(h:oK ds Qr):uD { nx:=fun _=>Qr (.fz .non),rt:=Qr } (eW ["channel","bent","pieces","name"] ds):=by
 obtain⟨c,bent,ws,rfl,sh,hb,hk,ik,hm,q⟩:=h;show uD _ [.fz c.obj,.fz (.bl bent),.un,.un];unfold uD;have big:=gP;walk_at "px";refine kq c.keeps nu (fun k=>eF ⟨none,k.1,k.2.1,k.2.2⟩) (fun Q' h=>?_) (by omega) (fun x hx K1 k=>?_) ?_
 ·unfold bE.obj;walk_at "px";exact⟨_,rfl,h⟩
 ·unfold nu;walk_at "px";exact⟨by omega,k⟩
 ·have ek:c.keeps.map (fun k=>eF ⟨none,k.1,k.2.1,k.2.2⟩)=(iP c).map eF:=by unfold iP;rw[List.map_map];rfl
  rw[ek];walk_at "go";refine A0 (fun ds=>∃l,lU c l/\ds=l.map D.str) (fun Q' h=>?_) ?_
  ·walk_at "px";exact⟨c,ws,rfl,sh,ik,hm,fun l nd mem r8=>h _ ⟨l,⟨nd,mem,r8⟩,rfl⟩⟩
  rintro _ ⟨l,hN,rfl⟩;have yu:l.length<=40:=aJ (uw hN.nd fun w hw=>hm w ((hN.mem w).mp hw)) ik;refine HC l D.str (fun i ρ=>∃a:Sl,ρ=[.fz c.obj,.fz (.bl bent),.ow ((iP c++(l.take i).flatMap (fm c bent)).map eF),a]) ⟨.un,by simp⟩ ?_ ?_
  ·rintro i x ρ hx ⟨a,rfl⟩;walk_at "px";refine⟨c,x,bent,rfl,sh,hb,?_⟩;have h1:=F6 (fm c bent) 101 (fun w=>by have:=AY c bent w;omega) (l.take i);have h2:=AY c bent x;have h3:(iP c).length<=100:=by unfold iP;rw[af];exact hk
   have h4:(l.take i).length<=40:=by rw[aL];omega
   refine⟨by simp only[au,af];omega,.fz (.str x),?_⟩;rw[List.take_add_one,hx];simp[List.flatMap_append]
  ·rintro ρ ⟨a,rfl⟩;walk_at "go";rw[List.take_length];exact q l hN
end Wc
namespace Wc
open PySem L2 PyProof.Rows
end Wc
open PySem L2 PyProof.Rows Wc
local macro_rules | `(tactic| walk_at "px")=>`(tactic| (repeat(first | walk_at "b" | simp only[zt,zH,mS,rJ,oA,k6,pF,tP,pE,my,vM,zI,tR])))
namespace Wc
open PySem L2 PyProof.Rows
theorem F5(ps:List Pc):nG (ps.map eF) (ps.map eF)=ps.map fun p=>.tup [eF p,eF p]:=by
 induction ps with
 | nil=>rfl
 | cons p r ih=>show D.tup [eF p,eF p]::nG (r.map eF) (r.map eF)=_;rw[ih];rfl
def nT:cI:=fun ds Q=>∃ps:List Pc,ds=[kW ps,kW ps]/\ps.length<=1000/\Q (.fz (.bl true))
def xr:TX:=(bH (dU (lS (kd (bZ (oy "list" (a9 0)))) (bZ (bj ly (cM gX (bh (a9 0) bx)) (cM gX (bh (a9 1) bx))))) (dr (dC (.bl false))) eh)
 (bH (gZ (pF (bh (a9 0) (bh (a9 1) bx))) (g6 2 (de (bW 2) (de (bW 3) gh))) (dU (lS (kd (bZ (oy "tuple" (a9 2)))) (lS (bZ (bj ly (a9 2) (a9 3))) (bZ (cM tP (bh (et (fh (a9 2)) [none] (bW 0) gY (oy "bool" (a9 0))) bx))))) (dr (dC (.bl false))) eh))
 (dr (dC (.bl true)))))
theorem Jb(ds:List D)(Qr:R->Prop)(hl:ds.length=2)(h:nT ds Qr):xr { nx:=fun _=>Qr (.fz .non),rt:=Qr } (eW ["_law_found","_law_due","_law_one","_law_other"] ds):=by
 obtain⟨ps,rfl,hn,q⟩:=h;show xr _ [.fz (kW ps),.fz (kW ps),.un,.un];unfold xr kW;have big:=gP;walk_at "px";walk_at "go";refine qX ps (fun p=>.tup [eF p,eF p]) (fun Q' h=>?_) (fun i ρ=>∃a b:Sl,ρ=[.fz (.lst (ps.map eF)),.fz (.lst (ps.map eF)),a,b]) ⟨_,_,rfl⟩ ?_ ?_
 ·walk_at "px";rw[F5];exact h
 ·rintro i p ρ hp ⟨a,b,rfl⟩;have ok:bQ 9 (eF p):=Ej 8 p;walk_at "px";refine⟨rfl,?_⟩;rw[show mB (jr (eF p)) "tuple"=true from vM _,if_neg (by simp)];refine⟨ok,ok,?_⟩;simp only[k7,pU 9 _ ok,Bool.not_true,ay,aU];refine kq [dO p.n,.int p.l,.int p.r,.int p.k] id (fun _=>.bl false) (fun Q' h=>?_) (by simp;omega) (fun d hd K1 k=>?_) ?_
  ·rw[show eF p=.tup [dO p.n,.int p.l,.int p.r,.int p.k] from rfl];walk_at "px";exact h
  ·walk_at "px";simp only[ai,aB,or_false] at hd;rcases hd with rfl | rfl | rfl | rfl
   ·cases p.n with
    | none=>exact⟨rfl,k⟩
    | some x=>exact⟨rfl,k⟩
   ·exact⟨rfl,k⟩
   ·exact⟨rfl,k⟩
   ·exact⟨rfl,k⟩
  ·walk_at "px";exact⟨_,_,rfl⟩
 ·rintro ρ ⟨a,b,rfl⟩;walk_at "go";exact q
def rD:cI:=fun ds Q=>∃(w:Str) (k l r:Int) (cs:List Int),ds=[kW (hZ w k ([l]++cs++[r])),.tup [.int l,.int r],dI cs,.int k]/\cs.length<=100/\Q (.fz (.bl true))
def w6:TX:=(bH (dU (lS (bZ (bj ly (cM gX (bh (a9 0) bx)) (bj cR (cM gX (bh (a9 2) bx)) (dC (.int 1))))) (lS (bZ (bj ly (bj b9 (bj b9 (a9 0) (dC (.int 0))) (dC (.int 1))) (bj b9 (a9 1) (dC (.int 0))))) (bZ (bj ly (bj b9 (bj b9 (a9 0) (pD (dC (.int 1)))) (dC (.int 2))) (bj b9 (a9 1) (dC (.int 1))))))) (dr (dC (.bl false))) eh)
 (bH (gZ (kh (bh (cM gX (bh (a9 2) bx)) bx)) (bW 4) (dU (lS (bZ (bj ly (bj b9 (bj b9 (a9 0) (a9 4)) (dC (.int 2))) (bj b9 (a9 2) (a9 4)))) (bZ (bj ly (bj b9 (bj b9 (a9 0) (bj cR (a9 4) (dC (.int 1)))) (dC (.int 1))) (bj b9 (a9 2) (a9 4))))) (dr (dC (.bl false))) eh))
 (dr (cM pE (bh (et (fh (a9 0)) [none,some 3] (bW 0) gY (bj oEq (bj b9 (a9 0) (dC (.int 3))) (a9 1))) bx)))))
theorem Ad(w:Str)(k:Int)(bs:List Int):(hZ w k bs).length=bs.length-1:=by
 unfold hZ;rw[af,List.length_zip,List.length_drop];omega
theorem t9{w:Str}{k:Int}{bs:List Int}{i:Nat}{a b:Int}(h1:bs[i]?=some a)(h2:bs[i+1]?=some b):(hZ w k bs)[i]?=some ⟨some w,a,b,k⟩:=by
 unfold hZ;rw[aK];have:(bs.zip (bs.drop 1))[i]?=some (a,b):=by
  rw[List.getElem?_zip_eq_some];exact⟨h1,by rw[List.getElem?_drop,Nat.add_comm];exact h2⟩
 rw[this];rfl
theorem Jh(ds:List D)(Qr:R->Prop)(hl:ds.length=4)(h:rD ds Qr):w6 { nx:=fun _=>Qr (.fz .non),rt:=Qr } (eW ["_law_own","_law_stretch_here","_law_cuts","_law_width","_law_k"] ds):=by
 obtain⟨w,k,l,r,cs,rfl,hn,q⟩:=h;show w6 _ [.fz (kW (hZ w k ([l]++cs++[r]))),.fz (.tup [.int l,.int r]),.fz (dI cs),.fz (.int k),.un];unfold w6 kW dI;have big:=gP;have hb:([l]++cs++[r]).length=cs.length+2:=by simp
 have iJ:=Ad w k ([l]++cs++[r]);rw[hb] at iJ;obtain⟨f1,f2,f3,f4⟩:(∃x,(hZ w k ([l]++cs++[r]))[0]?=some x/\x.l=l)/\(∃x,(hZ w k ([l]++cs++[r]))[cs.length]?=some x/\x.r=r)/\(∀i c,cs[i]?=some c->(∃x,(hZ w k ([l]++cs++[r]))[i]?=some x/\x.r=c)/\∃x,(hZ w k ([l]++cs++[r]))[i+1]?=some x/\x.l=c)/\∀p∈hZ w k ([l]++cs++[r]),p.k=k:=by
  have get:∀i,i<cs.length+2->∃a,([l]++cs++[r])[i]?=some a:=fun i hi=>⟨_,ar (by rw[hb];exact hi)⟩
  refine⟨?_,?_,fun i c hc=>?_,fun p hp=>?_⟩
  ·obtain⟨b,lM⟩:=get 1 (by omega);exact⟨_,t9 rfl lM,rfl⟩
  ·obtain⟨a,ha⟩:=get cs.length (by omega);refine⟨_,t9 ha (b:=r) ?_,rfl⟩;rw[List.getElem?_append_right (by simp)];simp
  ·have hi:=(ax.mp hc).1;have Cq:([l]++cs++[r])[i+1]?=some c:=by
    rw[List.append_assoc,List.singleton_append,List.getElem?_cons_succ,List.getElem?_append_left hi];exact hc
   obtain⟨a,ha⟩:=get i (by omega);obtain⟨d,hd⟩:=get (i+2) (by omega);exact⟨⟨_,t9 ha Cq,rfl⟩,⟨_,t9 Cq hd,rfl⟩⟩
  ·unfold hZ at hp;obtain⟨x,_,rfl⟩:=aF.mp hp;rfl
 generalize hZ w k ([l]++cs++[r])=C at iJ f1 f2 f3 f4 ⊢;have iJ:C.length=cs.length+1:=by omega
 obtain⟨x0,K5,e0⟩:=f1;obtain⟨x1,K4,e1⟩:=f2;have ex:∀x:Pc,eF x=.tup [dO x.n,.int x.l,.int x.r,.int x.k]:=fun _=>rfl
 have nat:∀{i:Nat} {x:Pc},C[i]?=some x->cQ C (i:Int)=some x:=fun h=>by
  rw[kn (ax.mp h).1,(ax.mp h).2]
 have vc:∀a:Int,(!bz (D.int a) (D.int a))=false:=fun a=>by simp[bz]
 walk_at "px";simp only[af];rw[iJ,if_neg (by simp)];refine⟨x0,nat K5,?_⟩;rw[ex];refine⟨_,rfl,_,rfl,by simp only[bQ],by simp only[bQ],?_⟩;subst e0 e1;simp only[k7,vc,ay,aU];have last:cQ C (-1)=some x1:=by
  have cH:C≠[]:=fun z=>by rw[z] at iJ;simp at iJ
  rw[Ga C cH,List.getLast_eq_getElem];have:C.length-1=cs.length:=by omega
  simp only[this];rw[(ax.mp K4).2]
 refine⟨x1,last,?_⟩;rw[ex];refine⟨_,rfl,_,rfl,by simp only[bQ],by simp only[bQ],?_⟩;simp only[k7,vc,ay,aU];walk_at "go";refine p7 cs.length (fun Q' h=>?_) (fun i ρ=>∃a:Sl,ρ=[.fz (.lst (C.map eF)),.fz (.tup [.int x0.l,.int x1.r]),.fz (.lst (cs.map D.int)),.fz (.int k),a]) ⟨_,rfl⟩ ?_ ?_
 ·walk_at "px";rw[af];exact⟨by omega,by omega,by simpa using h⟩
 ·rintro i ρ hi ⟨a,rfl⟩;obtain⟨⟨y,hy,ey⟩,z,hz,ez⟩:=f3 i _ (ar hi);walk_at "px";refine⟨y,nat hy,?_⟩;rw[ex];refine⟨_,rfl,_,kn hi,by simp only[bQ],?_⟩;simp only[k7,ey,vc,ay,aU];refine⟨z,by have:=nat hz;rwa [show((i+1:Nat):Int)=(i:Int)+1 from rfl] at this,?_⟩;rw[ex];refine⟨_,rfl,_,kn hi,by simp only[bQ],?_⟩;simp only[k7,ez,vc,ay,aU];exact⟨_,rfl⟩
 ·rintro ρ ⟨a,rfl⟩;walk_at "go";refine kq C eF (fun _=>.bl true) (fun Q' h=>?_) (by omega) (fun p hp K1 k1=>?_) ?_
  ·walk_at "px";exact h
  ·rw[ex];walk_at "px";refine⟨_,rfl,by simp only[bQ],?_⟩;rw[f4 p hp];simpa[bz] using k1
  ·walk_at "px";have:∀l:List Pc,ib (l.map fun _=>D.bl true)=some (l.map fun _=>true):=fun l=>by
    induction l with
    | nil=>rfl
    | cons a r ih=>show(ib (r.map fun _=>D.bl true)).map _=_;rw[ih];rfl
   simp only[this];rw[show(C.map fun _=>true).all id=true by simp];exact q
end Wc
namespace Wc
open PySem L2 PyProof.Rows
end Wc
open PySem L2 PyProof.Rows Wc
local macro_rules | `(tactic| walk_at "px")=>`(tactic| walk_at "b")
namespace Wc
open PySem L2 PyProof.Rows
def lB(a b:Str):Prop:=Spec.ltCps b.cps.toList a.cps.toList=false
theorem GW{a b c:Str}(h:lB a b)(h':lB b c):lB a c:=by
 unfold lB at *;cases e:Spec.ltCps c.cps.toList a.cps.toList with
 | false=>rfl
 | true=>
  cases e2:Spec.ltCps a.cps.toList b.cps.toList with
  | true=>rw[wW e e2] at h';cases h'
  | false=>rw[um e2 h] at e;rw[e] at h';cases h'
theorem Bc:∀{p:Str} {l:List Str},risingS p l=true->(p::l).Pairwise lB
 | p,[],_=>by simp
 | p,x::r,h=>by
  simp only[risingS,Bool.and_eq_true,Bool.not_eq_true'] at h;have ih:=Bc h.2;rw[List.pairwise_cons];refine⟨fun b hb=>?_,ih⟩;rcases ai.mp hb with rfl | hb
  ·exact h.1
  ·exact GW h.1 ((List.pairwise_cons.mp ih).1 b hb)
theorem uv{l:List Str}(h:sortedS l=true):l.Pairwise lB:=by
 cases l with
 | nil=>exact .nil
 | cons x r=>exact Bc h
theorem AX{a b:List Str}(hp:a.Perm b)(h:a.Pairwise lB)(h':b.Pairwise lB):a=b:=
 hp.eq_of_pairwise (fun x y _ _ h1 h2=>Ae (um h2 h1)) h h'
theorem wz{c:bE}{a b:List Str}(h:lU c a)(h':lU c b):a=b:=
 AX ((List.perm_ext_iff_of_nodup h.nd h'.nd).mpr fun w=>by rw[h.mem,h'.mem]) (uv h.r8) (uv h'.r8)
theorem GV(c:bE)(w:Str)(k:Int):k∈pl c w↔k∈places c.top c.aZ c.left c.right w:=by
 unfold pl places;simp only[aA];constructor
 ·rintro((h | h) | h)
  ·exact .inl (.inr h)
  ·exact .inl (.inl h)
  ·exact .inr h
 ·rintro((h | h) | h)
  ·exact .inl (.inr h)
  ·exact .inl (.inl h)
  ·exact .inr h
theorem CU(c:bE)(w:Str):∀x∈pl c w,-1<=x/\x<=c.top.length:=by
 intro x hx;unfold pl at hx;rcases aA.mp hx with hx | hx
 ·rcases aA.mp hx with hx | hx
  ·split at hx
   ·simp at hx;omega
   ·cases hx
  ·obtain⟨n,hn,rfl⟩:=aF.mp hx;have:=List.mem_range.mp (List.mem_filter.mp hn).1;omega
 ·split at hx
  ·simp at hx;omega
  ·cases hx
theorem CT{c:bE}{w:Str}(hb:c.aZ.length=c.top.length)(h:fZ c w):pl c w≠[]:=by
 have mid:∀n:Nat,n<c.top.length->(c.top[n]?=some (some w)\/c.aZ[n]?=some (some w))->(n:Int)∈pl c w:=fun n hn h=>by
  unfold pl;refine List.mem_append_left _ (aI _ (aF.mpr ⟨n,List.mem_filter.mpr ⟨List.mem_range.mpr hn,?_⟩,rfl⟩));simpa using h
 rcases h with h | h | h | h
 ·obtain⟨n,hn⟩:=List.getElem?_of_mem h;exact List.ne_nil_of_mem (mid n (ax.mp hn).1 (.inl hn))
 ·obtain⟨n,hn⟩:=List.getElem?_of_mem h;have:=(ax.mp hn).1;exact List.ne_nil_of_mem (mid n (by omega) (.inr hn))
 ·unfold pl;rw[if_pos h];simp
 ·unfold pl;rw[if_pos h];simp
theorem D4{c:bE}{w:Str}(hb:c.aZ.length=c.top.length)(hw:c.top.length<=40)(h:fZ c w){m M:Int}(h1:lW m (places c.top c.aZ c.left c.right w++[99]))(h2:lX M (places c.top c.aZ c.left c.right w++[-9])) :
  ou (pl c w)=if m=M then none else some (m,M):=by
 have up:=zA c w;have kQ:=CU c w;have iff:=GV c w;cases hp:pl c w with
 | nil=>exact absurd hp (CT hb h)
 | cons a r=>
  rw[hp] at up kQ iff;have ha:a∈a::r:=by simp
  have hz:(a::r).getLast (by simp)∈a::r:=List.getLast_mem _;have e1:a=m:=by
   have q1:=h1.2 a (List.mem_append_left _ ((iff a).mp ha));rcases aA.mp h1.1 with hm | hm
   ·rcases ai.mp ((iff m).mpr hm) with rfl | hm
    ·rfl
    ·have:=(List.pairwise_cons.mp up).1 m hm;omega
   ·simp at hm;have:=kQ a ha;omega
  have e2:(a::r).getLast (by simp)=M:=by
   have q1:=h2.2 _ (List.mem_append_left _ ((iff _).mp hz));rcases aA.mp h2.1 with hm | hm
   ·have hM:=(iff M).mpr hm;have:=wA up M hM;omega
   ·simp at hm;have:=kQ _ hz;omega
  simp only[ou];rw[e2];subst e1;rfl
theorem pR{c:bE}{bent:Bool}{w:Str}{p:Pc}(h:p∈fm c bent w):p.n=some w:=by
 unfold fm at h;split at h
 ·cases h
 ·unfold hZ at h;obtain⟨x,_,rfl⟩:=aF.mp h;rfl
theorem AW{c:bE}{bent:Bool}{w:Str}:∀{l:List Str},l.Nodup->((l.flatMap (fm c bent)).filter fun p=>decide (p.n=some w))=if w∈l then fm c bent w else []
 | [],_=>rfl
 | a::l,nd=>by
  have ih:=AW (c:=c) (bent:=bent) (w:=w) (aX.mp nd).2;have qp:=(aX.mp nd).1;rw[List.flatMap_cons,List.filter_append,ih];by_cases h:a=w
  ·subst h;rw[if_neg qp,if_pos (by simp),List.append_nil,List.filter_eq_self];intro p hp;simpa using pR hp
  ·have:(fm c bent a).filter (fun p=>decide (p.n=some w))=[]:=by
    rw[List.filter_eq_nil_iff];intro p hp;rw[pR hp];simpa using h
   rw[this,List.nil_append];have e:(w∈a::l)↔w∈l:=by simp[Ne.symm h]
   simp only[e]
theorem D3{c:bE}{bent:Bool}{w:Str}{l:List Str}(nd:l.Nodup)(h:w∈l):((gy c bent l).filter fun p=>decide (p.n=some w))=fm c bent w:=by
 unfold gy;rw[List.filter_append,AW nd,if_pos h];have:(iP c).filter (fun p=>decide (p.n=some w))=[]:=by
  rw[List.filter_eq_nil_iff];intro p hp;unfold iP at hp;obtain⟨k,_,rfl⟩:=aF.mp hp;simp
 rw[this];rfl
theorem Ac(c:bE)(bent:Bool)(w:Str):(fm c bent w).length<=1+(ia c w).length:=by
 unfold fm;split
 ·exact Nat.zero_le _
 ·rw[Ad];cases bent<;>simp<;>omega
theorem GU{bs:List (Int×Str)}:∀{l:List Str},l.Nodup->(l.map fun w=>((bs.filter fun p=>decide (p.2=w)).map (·.1)).length).sum<=bs.length:=by
 intro l nd;induction bs with
 | nil=>
  have:∀l:List Str,(l.map fun _=>(0:Nat)).sum=0:=fun l=>by
   induction l with
   | nil=>rfl
   | cons a l ih=>simpa using ih
  simp only[List.filter_nil,aW,aT];rw[this];exact aq _
 | cons b bs ih=>
  have step:(l.map fun w=>(((b::bs).filter fun p=>decide (p.2=w)).map (·.1)).length).sum=(l.map fun w=>((bs.filter fun p=>decide (p.2=w)).map (·.1)).length).sum+l.count b.2:=by
   clear ih nd;induction l with
   | nil=>rfl
   | cons w l KW=>
    rw[av,av,List.sum_cons,List.sum_cons,KW,List.count_cons];by_cases h:b.2=w
    ·subst h;rw[List.filter_cons_of_pos (by simp)];simp;omega
    ·rw[List.filter_cons_of_neg (by simpa using h),if_neg (by simpa using Ne.symm h)];omega
  rw[step,aw];have:=List.nodup_iff_count.mp nd b.2;omega
theorem Bu{c:bE}{bent:Bool}{l:List Str}(nd:l.Nodup):(l.flatMap (fm c bent)).length<=l.length+c.bB.length:=by
 have h1:=GU (bs:=c.bB) nd;have h2:(l.flatMap (fm c bent)).length<=l.length+(l.map fun w=>(ia c w).length).sum:=by
  clear h1 nd;induction l with
  | nil=>simp
  | cons w l ih=>
   rw[List.flatMap_cons,au,av,List.sum_cons,aw];have:=Ac c bent w;omega
 exact aJ h2 (Nat.add_le_add_left h1 _)
noncomputable def kL(p:Pc):Str:=p.n.getD (Str.ofString "")
theorem Gz{c:bE}{bent:Bool}{l:List Str}(h:l.Pairwise lB):((l.flatMap (fm c bent)).map kL).Pairwise lB:=by
 rw[List.pairwise_map,List.pairwise_flatMap];refine⟨fun w _=>?_,h.imp fun{a b} iK x hx y hy=>?_⟩
 ·have:∀p∈fm c bent w,kL p=w:=fun p hp=>by unfold kL;rw[pR hp];rfl
  refine List.pairwise_of_forall_mem_list fun x hx y hy=>?_
  rw[this x hx,this y hy];exact vU _
 ·unfold kL;rw[pR hx,pR hy];exact iK
theorem Eh{ws:List Str}{most:Nat}{c:bE}(g:jJ ws most c)(w:Str):∀M:Int,M∈(1:Int)::((c.wide.filter fun p=>decide (p.1=w)).map (·.2))->(∀a∈(1:Int)::((c.wide.filter fun p=>decide (p.1=w)).map (·.2)),a<=M)->M=ju c.wide w:=by
 have hw:=g.wo;have h2:∀p∈c.wide,p.2=2\/p.2=3:=fun p hp=>(g.ww p hp).2.1
 generalize c.wide=l at hw h2;intro M h1 hm;induction l with
 | nil=>simpa[ju] using h1
 | cons p r ih=>
  rw[av,List.pairwise_cons] at hw;by_cases hp:p.1=w
  ·have none:r.filter (fun p=>decide (p.1=w))=[]:=by
    rw[List.filter_eq_nil_iff];intro q hq;have:=hw.1 q.1 (List.mem_map_of_mem hq);intro z;have z:q.1=w:=by simpa using z
    rw[hp,z] at this;unfold jC at this;rw[vU] at this;cases this
   rw[List.filter_cons_of_pos (by simpa using hp),none] at h1 hm;simp only[av,aW,ai,aB,or_false] at h1 hm;have hh:=h2 p (by simp);have:=hm p.2 (.inr rfl);simp only[ju,if_pos hp];omega
  ·rw[List.filter_cons_of_neg (by simpa using hp)] at h1 hm;simp only[ju,if_neg hp];exact ih hw.2 (fun q hq=>h2 q (by simp[hq])) h1 hm
end Wc
namespace Wc
open PySem L2 PyProof.Rows
end Wc
open PySem L2 PyProof.Rows Wc
local macro_rules | `(tactic| walk_at "px")=>`(tactic| (repeat(first | walk_at "b" | simp only[zt,zH,mS,rJ,oA,k6,vK,ub,tZ,pE,vM,zI,tR])))
namespace Wc
open PySem L2 PyProof.Rows
theorem GS{α:Type}[DecidableEq α]{l ws:List α}(nd:l.Nodup)(h:∀w∈l,w∈ws):l.length<=ws.length:=by
 induction l generalizing ws with
 | nil=>simp
 | cons a r ih=>
  rw[aX] at nd;have ha:a∈ws:=h a (by simp);have:=ih (ws:=ws.erase a) nd.2 fun w hw=>(List.mem_erase_of_ne fun(z:w=a)=>nd.1 (z▸hw)).mpr (h w (by simp[hw]))
  rw[List.length_erase_of_mem ha] at this;have hp:0<ws.length:=List.length_pos_of_mem ha;simp only[aw];omega
theorem CS:oD=dO:=by
 funext x
 cases x<;>rfl
def rB:cI:=fun ds Q=>∃(c:bE) (ws l:List Str) (bent:Bool),ds=[.lst c.parts,kW (gy c bent l),.bl bent]/\ws.length=8/\jJ ws 40 c/\lU c l/\Q (.fz (.bl true))
def xg:TX:=(bH (cv 3 (cM gX (bh (bj b9 (a9 0) (dC (.int 6))) bx)))
 (bH (dU (kd (bZ (dy 2 nT (bh (iM (a9 1) jt (hJ (a9 3))) (bh (et (fh (bj b9 (a9 0) (dC (.int 6)))) [none,none,none] (g6 3 (de (bW 0) (de (bW 1) (de (bW 2) gh)))) gY (g7 (bh (dC .non) (bh (a9 0) (bh (a9 1) (bh (a9 2) bx)))))) bx))))) (dr (dC (.bl false))) eh)
 (bH (cv 4 (et (fh (iM (a9 1) (hJ (a9 3)) jt)) [none] (bW 0) gY (bj b9 (a9 0) (dC (.int 0)))))
 (bH (dU (bZ (bj ly (a9 4) (cM mL (bh (a9 4) bx)))) (dr (dC (.bl false))) eh)
 (bH (cv 5 (dC (.int 0)))
 (bH (gZ (fh (cM Bg (bh (bj cR (bj cR (bj cR (bj b9 (a9 0) (dC (.int 0))) (bj b9 (a9 0) (dC (.int 1)))) (bj b9 (a9 0) (dC (.int 2)))) (bj b9 (a9 0) (dC (.int 3)))) bx))) (bW 6) (bH (cv 7 (dy 5 p8 (bh (bj b9 (a9 0) (dC (.int 0))) (bh (bj b9 (a9 0) (dC (.int 1))) (bh (bj b9 (a9 0) (dC (.int 2))) (bh (bj b9 (a9 0) (dC (.int 3))) (bh (a9 6) bx)))))))
 (bH (cv 8 (et (fh (a9 1)) [none,some 6] (bW 0) (bZ (bj oEq (bj b9 (a9 0) (dC (.int 0))) (a9 1))) (a9 0)))
 (bH (cv 9 (et (fh (bj b9 (a9 0) (dC (.int 5)))) [none,none,some 2,some 6] (g6 2 (de (bW 0) (de (bW 1) gh))) (mE (bZ (a9 2)) (bZ (bj oEq (a9 1) (a9 3)))) (a9 0)))
 (bH (cv 10 (cM my (bh (bj cR (ff (bh (dC (.int 1)) bx)) (et (fh (bj b9 (a9 0) (dC (.int 4)))) [none,none,some 6] (g6 2 (de (bW 0) (de (bW 1) gh))) (bZ (bj oEq (a9 0) (a9 2))) (a9 1))) bx)))
 (bH (dU (bZ (bj oEq (bj b9 (a9 7) (dC (.int 0))) (bj b9 (a9 7) (dC (.int 1))))) (dU (bZ (bj ly (a9 8) (ff bx))) (dr (dC (.bl false))) eh) (dU (kd (bZ (dy 4 rD (bh (a9 8) (bh (a9 7) (bh (a9 9) (bh (a9 10) bx))))))) (dr (dC (.bl false))) eh))
 (cv 5 (bj cR (a9 5) (cM gX (bh (a9 8) bx))))))))))
 (dr (bj oEq (a9 5) (bj (jW fun i j=>.int (i-j)) (cM gX (bh (a9 1) bx)) (a9 3))))))))))
theorem J7(ds:List D)(Qr:R->Prop)(hl:ds.length=3)(h:rB ds Qr):xg { nx:=fun _=>Qr (.fz .non),rt:=Qr } (eW ["_law_lists","_law_pieces","_law_bent","_law_many_here","_law_names","_law_told","_law_word","_law_stretch_here","_law_own","_law_cuts","_law_width"] ds):=by
 obtain⟨c,ws,l,bent,rfl,ik,g,hN,q⟩:=h;show xg _ [.fz (.lst c.parts),.fz (kW (gy c bent l)),.fz (.bl bent),.un,.un,.un,.un,.un,.un,.un,.un];unfold xg;have big:=gP;have CK:cQ c.parts 0=some (dP c.top):=rfl;have CJ:cQ c.parts 1=some (dP c.aZ):=rfl;have at2:cQ c.parts 2=some (dS c.left):=rfl;have ve:cQ c.parts 3=some (dS c.right):=rfl;have L5:cQ c.parts 4=some (dW c.wide):=rfl;have yZ:cQ c.parts 5=some (dB c.bB):=rfl;have CI:cQ c.parts 6=some (dK c.keeps):=rfl;have hw:=g.w2;have nr:=g.be.len;have Ln:=g.ke.1;have oY:=g.wl;have jD:∀w,fZ c w->w∈ws:=fun w h=>by
  rcases h with h | h | h | h
  ·exact g.pt w h
  ·exact g.pb w h
  ·exact g.lw w h
  ·exact g.rw_ w h
 have yu:l.length<=8:=by have:=uw hN.nd fun w h=>jD w ((hN.mem w).mp h);omega
 have Cm:=Bu (c:=c) (bent:=bent) hN.nd;have dA:(gy c bent l).length<=60:=by
  unfold gy iP;rw[au,af];omega
 have ex:∀x:Pc,eF x=.tup [dO x.n,.int x.l,.int x.r,.int x.k]:=fun _=>rfl
 have rW:gf (gy c bent l) none (some (c.keeps.length:Int))=iP c:=by
  rw[uc _ (by omega),Int.toNat_natCast];unfold gy;exact List.take_left' (by unfold iP;simp)
 have oj:gf (gy c bent l) (some (c.keeps.length:Int)) none=l.flatMap (fm c bent):=by
  rw[uy _ (by omega),Int.toNat_natCast];unfold gy;exact List.drop_left' (by unfold iP;simp)
 walk_at "px";refine⟨_,CI,?_⟩;unfold dK;dsimp only;rw[af];unfold kW;walk_at "go";rw[rW];refine kq c.keeps nu (fun k=>.tup [.non,.int k.1,.int k.2.1,.int k.2.2]) (fun Q' h=>?_) (by omega) (fun k hk K1 k1=>?_) ?_
 ·walk_at "px";exact⟨_,CI,h⟩
 ·unfold nu;walk_at "px";exact⟨by omega,k1⟩
 refine⟨iP c,?_,by unfold iP;rw[af];omega,?_⟩
 ·show [D.lst _,D.lst _]=_;unfold kW iP;rw[List.map_map];rfl
 walk_at "go";generalize hF:l.flatMap (fm c bent)=F at oj Cm;have LN:∀p∈F,p.n=some (kL p):=fun p hp=>by
  rw[<-hF] at hp;obtain⟨w,_,hw⟩:=List.mem_flatMap.mp hp;unfold kL;rw[pR hw];rfl
 have LM:(F.map kL).Pairwise lB:=by rw[<-hF];exact Gz (uv hN.r8)
 refine kq F eF (fun p=>.str (kL p)) (fun Q' h=>?_) (by omega) (fun p hp K1 k1=>?_) ?_
 ·walk_at "px";rw[oj];exact h
 ·rw[ex];walk_at "px";refine⟨_,rfl,?_⟩;rw[LN p hp];exact k1
 have e1:(F.map fun p=>D.str (kL p))=(F.map kL).map D.str:=by rw[List.map_map];rfl
 rw[e1];walk_at "go";simp only[mL,rK];refine⟨by rw[af];omega,fun gq hp sN=>?_⟩;rw[AX hp (uv sN) LM];have ok:bQ 9 (.lst ((F.map kL).map D.str)):=pP D.str _ fun x _=>by simp only[bQ]
 refine⟨ok,ok,?_⟩;simp only[k7,pJ,pU 9 _ ok,Bool.not_true,ay,aU];walk_at "go";generalize MA:D.lst ((F.map kL).map D.str)=NM;walk_at "go";refine qX l D.str (fun Q' h=>?_) (fun i ρ=>∃a b d e f:Sl,ρ=[.fz (.lst c.parts),.fz (.lst ((gy c bent l).map eF)),.fz (.bl bent),.fz (.int c.keeps.length),.fz NM,.fz (.int (((l.take i).flatMap (fm c bent)).length:Nat)),a,b,d,e,f]) ⟨_,_,_,_,_,rfl⟩ ?_ ?_
 ·walk_at "px";have t1:=g.bl;have t2:=g.ll;have t3:=g.rl;refine⟨.lst (c.top.map dO),CK,.lst (c.aZ.map dO),CJ,?_⟩;dsimp only;refine⟨by rw[af,af];omega,.lst (c.left.map D.str),at2,?_⟩;dsimp only;refine⟨by rw[au,af,af,af];omega,.lst (c.right.map D.str),ve,?_⟩;dsimp only;refine⟨by rw[au,au,af,af,af,af];omega,?_⟩;refine⟨c.top++c.aZ++c.left.map some++c.right.map some,?_,by simp;omega,fun l' nd hm=>?_,fun l' nd hm so=>?_⟩
  ·simp only[pJ,aO,List.map_map,CS];rfl
  ·have:=GS nd (ws:=none::ws.map some) fun x hx=>by
    cases x with
    | none=>simp
    | some x=>
     have:=jD x (by
      have:=hm _ hx;simp only[aA,aF,aV,exists_eq_right] at this;unfold fZ;rcases this with((h | h) | h) | h
      ·exact .inl h
      ·exact .inr (.inl h)
      ·exact .inr (.inr (.inl h))
      ·exact .inr (.inr (.inr h)))
     simp[this]
   simp at this;omega
  ·have:=wz (c:=c) (a:=l') (b:=l) ⟨nd,fun w=>by
    rw[hm];simp only[aA,aF,aV,exists_eq_right];unfold fZ;constructor
    ·rintro(((h | h) | h) | h)
     ·exact .inl h
     ·exact .inr (.inl h)
     ·exact .inr (.inr (.inl h))
     ·exact .inr (.inr (.inr h))
    ·rintro(h | h | h | h)
     ·exact .inl (.inl (.inl h))
     ·exact .inl (.inl (.inr h))
     ·exact .inl (.inr h)
     ·exact .inr h,so⟩ hN
   rw[this];exact h
 ·rintro i w ρ hi ⟨a,b,d,e,f,rfl⟩;have sI:w∈l:=List.mem_of_getElem? hi;have i5:=(hN.mem w).mp sI;walk_at "px";refine⟨_,CK,_,CJ,_,at2,_,ve,?_⟩;refine⟨c.top,c.aZ,c.left,c.right,w,rfl,g.bl,by omega,by have:=g.ll;omega,by have:=g.rl;omega,fun m M h1 h2=>?_⟩;have yc:=D4 g.bl hw i5 h1 h2;walk_at "go";refine mh (gy c bent l) eF eF (fun p=>decide (p.n=some w)) (fun Q' h=>?_) (by omega) (fun p hp K1 K0 k1 k0=>?_) ?_
  ·walk_at "px";exact h
  ·rw[ex];walk_at "px";refine⟨_,rfl,by rw[k6];trivial,?_⟩;rw[mS];by_cases uV:p.n=some w
   ·rw[if_pos (by simpa using uV)];exact k1 (by simpa using uV)
   ·rw[if_neg (by simpa using uV)];exact k0 (by simpa using uV)
  rw[D3 hN.nd sI];have oe:(fm c bent w).length<=60:=by
   have:=Ac c bent w;have:(ia c w).length<=c.bB.length:=by unfold ia;rw[af];exact List.length_filter_le _ _
   omega
  walk_at "go";refine mh c.bB j6 (fun p=>.int p.1) (fun p=>bent&&decide (p.2=w)) (fun Q' h=>?_) (by omega) (fun p hp K1 K0 k1 k0=>?_) ?_
  ·walk_at "px";exact⟨_,yZ,h⟩
  ·unfold j6;walk_at "px";cases bent with
   | false=>exact k0 (by simp)
   | true=>
    rw[if_pos rfl];by_cases nc:p.2=w
    ·rw[if_pos nc];exact k1 (by simpa using nc)
    ·rw[if_neg nc];exact k0 (by simpa using nc)
  have ec:((c.bB.filter fun p=>bent&&decide (p.2=w)).map fun p=>D.int p.1)=(if bent then ia c w else []).map D.int:=by
   cases bent with
   | false=>simp
   | true=>unfold ia;simp
  rw[ec];have iJ:(if bent then ia c w else []).length<=100:=by
   cases bent with
   | false=>simp
   | true=>simp only[aY];unfold ia;rw[af];have:=List.length_filter_le (fun p:Int×Str=>decide (p.2=w)) c.bB;omega
  have gU:fm c bent w=match ou (pl c w) with
   | none=>[]
   | some p=>hZ w (ju c.wide w) ([p.1]++(if bent then ia c w else [])++[p.2]):=rfl
  generalize (if bent then ia c w else [])=cs at iJ gU;walk_at "go";refine⟨by omega,?_⟩;refine mh c.wide mx (fun p=>.int p.2) (fun p=>decide (p.1=w)) (fun Q' h=>?_) (by omega) (fun p hp K1 K0 k1 k0=>?_) ?_
  ·walk_at "px";exact⟨_,L5,h⟩
  ·unfold mx;walk_at "px";by_cases nc:p.1=w
   ·rw[if_pos nc];exact k1 (by simpa using nc)
   ·rw[if_neg nc];exact k0 (by simpa using nc)
  simp only[pJ];refine⟨by rw[af,aw,aT];have:=List.length_filter_le (fun p:Str×Int=>decide (p.1=w)) c.wide;omega,?_⟩;have ew:([D.int 1]++(c.wide.filter fun p=>decide (p.1=w)).map fun p=>D.int p.2)=((1:Int)::(c.wide.filter fun p=>decide (p.1=w)).map (·.2)).map D.int:=by rw[av,List.map_map];rfl
  rw[ew];simp only[my,pY];refine⟨by simp,fun K LK LJ=>?_⟩;rw[Eh g w K LK LJ];have tk:(l.take (i+1)).flatMap (fm c bent)=(l.take i).flatMap (fm c bent)++fm c bent w:=by
   rw[List.take_add_one,hi,List.flatMap_append];simp
  rw[tk,au];simp only[k7];rw[yc] at gU;by_cases uX:m=M
  ·rw[if_pos uX] at gU;have gU:fm c bent w=[]:=gU;rw[gU];walk_at "go";refine⟨_,rfl,_,rfl,by simp only[bQ],by simp only[bQ],?_⟩;have eq1:bz (D.int m) (D.int M)=true:=by rw[uX];simp[bz]
   have eq2:(!bz (.lst []) (.lst []))=false:=by simp[bz,iG]
   have BU:bQ 9 (.lst []):=by simp only[bQ];exact fun e he=>by cases he
   simp only[k7,eq1,aY];refine⟨by omega,BU,BU,?_⟩;simp only[eq2,ay,aU];walk_at "go";exact⟨_,_,_,_,_,rfl⟩
  ·rw[if_neg uX] at gU;have gU:fm c bent w=hZ w (ju c.wide w) ([m]++cs++[M]):=gU;rw[gU];walk_at "go";refine⟨_,rfl,_,rfl,by simp only[bQ],by simp only[bQ],?_⟩;have eq1:bz (D.int m) (D.int M)=false:=by simpa[bz] using uX
   simp only[k7,eq1,ay,aU];refine⟨w,_,m,M,cs,rfl,iJ,?_⟩;walk_at "go";rw[af];exact⟨_,_,_,_,_,rfl⟩
 ·rintro ρ ⟨a,b,d,e,f,rfl⟩;walk_at "go";rw[List.take_length,hF,af,show(gy c bent l).length=c.keeps.length+F.length by unfold gy iP;rw[au,af,hF]];rw[decide_eq_true (by omega)];exact q
def qH:TX:=(bH (cv 1 (dy 2 rM (bh (a9 0) (bh (dC (.int 40)) bx))))
 (bH (cv 2 (dy 1 ri (bh (a9 1) bx)))
 (bH (cv 3 (vK 2 oK false (bh (a9 2) bx)))
 (bH (gZ (fh (g7 (bh (dC (.bl false)) (bh (dC (.bl true)) bx)))) (bW 4) (bH (kb 5 (dy 2 oK (bh (a9 2) (bh (a9 4) bx))))
 (bH (dU (lS (kd (bZ (pI 5 (oy "list" (a9 5))))) (kd (bZ (pI 5 (cM pE (bh (et (fh (a9 5)) [none] (bW 0) gY (vv (oy "tuple" (a9 0)) (bj oEq (cM gX (bh (a9 0) bx)) (dC (.int 4))))) bx)))))) (dr (dC (.bl false))) eh)
 (bH (dU (lS (kd (bZ (pI 5 (dy 2 nT (bh (a9 5) (bh (cM kg (bh (a9 5) bx)) bx)))))) (kd (bZ (pI 5 (dy 3 rB (bh (a9 1) (bh (a9 5) (bh (a9 4) bx)))))))) (dr (dC (.bl false))) eh)
 (bH (cv 6 (ub 5))
 (bH (tZ 5)
 (bH (dU (kd (bZ (dy 2 nT (bh (dy 2 oK (bh (a9 2) (bh (a9 4) bx))) (bh (a9 6) bx))))) (dr (dC (.bl false))) eh)
 (dU (mE (kd (bZ (a9 4))) (kd (bZ (dy 2 nT (bh (a9 3) (bh (a9 6) bx)))))) (dr (dC (.bl false))) eh))))))))
 (dr (dy 2 rF (bh (a9 2) (bh (a9 1) bx))))))))
theorem Gy(ds:List D)(Qr:R->Prop)(hl:ds.length=1)(h:vJ 63 ds Qr):qH { nx:=fun _=>Qr (.fz .non),rt:=Qr } (eW ["_law_script","_law_lists","_law_channel_here","_law_plain","_law_bent","_law_pieces","_law_kept_here"] ds):=by
 obtain⟨ns,rfl,hn,q⟩:=h;show qH _ [.fz (dI ns),.un,.un,.un,.un,.un,.un];unfold qH;have big:=gP;walk_at "px";refine⟨ns,40,rfl,by omega,by decide,by decide,fun c g=>?_⟩;have sh:kD c:=⟨g.w2,g.bl,aJ g.ll (by decide),aJ g.rl (by decide)⟩
 have ik:=Bd (qm ns);generalize l7 (qm ns)=ws at g ik;have hw:=g.w2;have nr:=g.be.len;have Ln:=g.ke.1;have K6:=ik.len;have jD:∀w,fZ c w->w∈ws:=fun w h=>by
  rcases h with h | h | h | h
  ·exact g.pt w h
  ·exact g.pb w h
  ·exact g.lw w h
  ·exact g.rw_ w h
 walk_at "go";refine⟨c,rfl,?_⟩;walk_at "go";refine⟨c,_,ws,rfl,sh,by omega,by omega,by omega,jD,fun l hN=>?_⟩;have yu:l.length<=8:=by have:=uw hN.nd fun w h=>jD w ((hN.mem w).mp h);omega
 have dA:∀bent,(gy c bent l).length<=60:=fun bent=>by
  have Cm:=Bu (c:=c) (bent:=bent) hN.nd;unfold gy iP;rw[au,af];omega
 walk_at "go";refine qX [false,true] D.bl (fun Q' h=>?_) (fun i ρ=>∃a b d:Sl,ρ=[.fz (dI ns),.fz (.lst c.parts),.fz c.obj,.fz (.lst ((gy c false l).map eF)),a,b,d]) ⟨_,_,_,rfl⟩ ?_ ?_
 ·walk_at "px";exact⟨by omega,h⟩
 ·rintro i bent ρ hi ⟨a,b,d,rfl⟩;have hp:=dA bent;walk_at "px";refine⟨c,_,ws,rfl,sh,by omega,by omega,by omega,jD,fun l' LI=>?_⟩;rw[wz LI hN];walk_at "go";refine⟨rfl,?_⟩;refine kq (gy c bent l) eF (fun _=>.bl true) (fun Q' h=>?_) (by omega) (fun p _ K1 k=>?_) ?_
  ·walk_at "px";exact h
  ·rw[show eF p=.tup [dO p.n,.int p.l,.int p.r,.int p.k] from rfl];walk_at "px";exact k
  have L3:∀l:List Pc,ib (l.map fun _=>D.bl true)=some (l.map fun _=>true):=fun l=>by
   induction l with
   | nil=>rfl
   | cons a r ih=>show(ib (r.map fun _=>D.bl true)).map _=_;rw[ih];rfl
  simp only[pJ,L3];refine⟨rfl,?_⟩;rw[show((gy c bent l).map fun _=>true).all id=true by simp,if_neg (by simp)];walk_at "go";refine⟨gy c bent l,rfl,by omega,?_⟩;refine⟨rfl,?_⟩;refine⟨c,ws,l,bent,rfl,K6,g,hN,?_⟩;refine⟨rfl,?_⟩;walk_at "go";walk_at "go";walk_at "go";refine⟨c,_,ws,rfl,sh,by omega,by omega,by omega,jD,fun l2 LH=>?_⟩;rw[wz LH hN];walk_at "px";refine⟨gy c bent l,rfl,by omega,?_⟩;walk_at "go";cases bent with
  | true=>
   walk_at "px";exact⟨_,_,_,rfl⟩
  | false=>
   walk_at "px";refine⟨gy c false l,rfl,by omega,?_⟩;walk_at "px";exact⟨_,_,_,rfl⟩
 ·rintro ρ ⟨a,b,d,rfl⟩;walk_at "go";exact⟨c,rfl,q⟩
end Wc
end
namespace Wc
open PySem PySem.Spec PyProof.Rows L2
local macro_rules | `(tactic| walk_at "sc")=>`(tactic| exact⟨rfl,rfl,rfl,by decide +kernel,rfl,by decide +kernel,by decide +kernel⟩)
local macro_rules | `(tactic| walk_at "bn")=>`(tactic| (intro _ _ _ _ _ _ us hl;first | (obtain⟨_,rfl⟩:=zr hl;exact rfl) | (obtain⟨_,_,rfl⟩:=zq hl;exact rfl) | (obtain⟨_,_,_,rfl⟩:=zp hl;exact rfl) | (obtain⟨_,_,_,_,rfl⟩:=zo hl;exact rfl) | (obtain⟨_,_,_,_,_,rfl⟩:=zm hl;exact rfl) | (obtain⟨_,_,_,_,_,_,rfl⟩:=zl hl;exact rfl) | (obtain⟨_,_,_,_,_,_,_,rfl⟩:=zk hl;exact rfl)))
def top(i:Nat):Stmt:=PySem.Challenge.pw_wirechannel_k13_pieces.main.body.getD i (.Pass ⟨0,0,0,0⟩)
structure Txt (K:PySem.W.Frag) (mg:Str->Option Value):Prop where
 b_all:mg "all"=none
 b_any:mg "any"=none
 b_bool:mg "bool"=none
 b_enumerate:mg "enumerate"=none
 b_int:mg "int"=none
 b_isinstance:mg "isinstance"=none
 b_len:mg "len"=none
 b_list:mg "list"=none
 b_max:mg "max"=none
 b_min:mg "min"=none
 b_range:mg "range"=none
 b_set:mg "set"=none
 b_sorted:mg "sorted"=none
 b_sum:mg "sum"=none
 b_tuple:mg "tuple"=none
 b_zip:mg "zip"=none
section
variable {P:Program} {w:World} {K:PySem.W.Frag} {mg:Str->Option Value} {base:Heap}
abbrev eK:Stmt:=Fu (top 11) 0
theorem Hx:br ["self","top","bottom","left","right","wide","bends","keeps"] ("self"::["top","bottom","left","right","wide","bends","keeps"]) (bf eK):=by walk_at "sc"
theorem ID(A:vq K mg "Channel" "Channel.__init__" eK ["top","bottom","left","right","wide","bends","keeps"])(T:Txt K mg):iw P w K mg base 1 "Channel" 7 rH:=by
 obtain⟨C,f,fd,hC,M,F,hm,na⟩:=A.ex;refine⟨C,f,fd,_,M,GJ (T:=ux) F Hx hC (fun bM A outer s H E hr=>?_) (fun ds Qr _ h=>IJ ds Qr _ (fun fs e p hp=>na.all _ (by rw[<-e];exact List.mem_map_of_mem hp)) h),hm,F.binds fun _ _ _ _ _ _ us hl=>by obtain⟨_,_,_,_,_,_,_,_,rfl⟩:=zj hl;exact rfl⟩;have hu:=hr.units;exact(oE hC.cls na.1 (ma mK T.b_list boot_list (bp (ba 1) bA))
  (oE hC.cls na.2.1 (ma mK T.b_list boot_list (bp (ba 2) bA))
  (oE hC.cls na.2.2.1 (ma mK T.b_list boot_list (bp (ba 3) bA))
  (oE hC.cls na.2.2.2.1 (ma mK T.b_list boot_list (bp (ba 4) bA))
  (oE hC.cls na.2.2.2.2.1 (ma mK T.b_list boot_list (bp (ba 5) bA))
  (oE hC.cls na.2.2.2.2.2.1 (ma mK T.b_list boot_list (bp (ba 6) bA))
  (oE hC.cls na.2.2.2.2.2.2.1 (ma mK T.b_list boot_list (bp (ba 7) bA))
  FJ)))))))
theorem fu:br ["_law_cell","_law_size","_law_signs","_law_stem_here","_law_k"] ["_law_cell","_law_size"] (bf (top 13)):=by walk_at "sc"
theorem eZ:br ["_law_cell","_law_size","_law_stem_here","_law_at","_law_other"] ["_law_cell"] (bf (top 14)):=by walk_at "sc"
theorem Jx:(["_law_sign","_law_stem_here","_law_at","_law_size"]:List Str).Nodup:=by decide +kernel
theorem Jw:(["_law_k","_law_stem_here","_law_size"]:List Str).Nodup:=by decide +kernel
theorem Jv:(["_law_k","_law_stem_here"]:List Str).Nodup:=by decide +kernel
theorem fR:br ["_law_cell","_law_k"] ["_law_cell","_law_k"] (bf (top 15)):=by walk_at "sc"
theorem fw:br ["_law_words","_law_cells","_law_seed","_law_width","_law_top","_law_bottom","_law_c","_law_row","_law_side","_law_k","_law_one"] ["_law_words","_law_cells","_law_seed","_law_width"] (bf (top 16)):=by walk_at "sc"
theorem fA:br ["_law_words","_law_bits"] ["_law_words","_law_bits"] (bf (top 21)):=by walk_at "sc"
theorem Ja:(["_law_k","_law_words","_law_bits"]:List Str).Nodup:=by decide +kernel
theorem fB:br ["_law_top","_law_bottom","_law_left","_law_right","_law_word","_law_some"] ["_law_top","_law_bottom","_law_left","_law_right","_law_word"] (bf (top 17)):=by walk_at "sc"
theorem dY:br ["_law_top","_law_bottom","_law_left","_law_right","_law_word","_law_places"] ["_law_top","_law_bottom","_law_left","_law_right","_law_word"] (bf (top 18)):=by walk_at "sc"
theorem JV:(["_law_c","_law_word","_law_top","_law_bottom"]:List Str).Nodup:=by decide +kernel
theorem e8:br ["_law_lists","_law_words","_law_cells","_law_seed","_law_top","_law_bottom","_law_left","_law_right","_law_bends_here","_law_c","_law_one","_law_word","_law_l","_law_r","_law_here"] ["_law_lists","_law_words","_law_cells","_law_seed"] (bf (top 19)):=by walk_at "sc"
theorem Ju:(["_law_x"]:List Str).Nodup:=by decide +kernel
theorem e7:br ["_law_width","_law_cells","_law_seed","_law_keeps_here","_law_k","_law_cell","_law_one","_law_first"] ["_law_width","_law_cells","_law_seed"] (bf (top 20)):=by walk_at "sc"
theorem dZ:br ["_law_script","_law_most","_law_seed","_law_words","_law_width","_law_cells","_law_top","_law_bottom","_law_bits","_law_left","_law_right","_law_lone","_law_wide","_law_k","_law_word","_law_one","_law_bends_here","_law_keeps_here"] ["_law_script","_law_most"] (bf (top 22)):=by walk_at "sc"
theorem JU:(["_law_word","_law_top","_law_bottom","_law_left","_law_right"]:List Str).Nodup:=by decide +kernel
theorem JT:(["_law_word","_law_lone"]:List Str).Nodup:=by decide +kernel
theorem JS:(["_law_word","_law_lone"]:List Str).Nodup:=by decide +kernel
theorem JR:(["_law_word","_law_lone"]:List Str).Nodup:=by decide +kernel
theorem JQ:(["_law_word","_law_lone"]:List Str).Nodup:=by decide +kernel
theorem fD:br ["_law_lists","_law_copies"] ["_law_lists"] (bf (top 23)):=by walk_at "sc"
theorem I0:(["_law_one"]:List Str).Nodup:=by decide +kernel
theorem gz:br ["channel","pins"] ["channel"] (bf (top 2)):=by walk_at "sc"
theorem IG:(["name"]:List Str).Nodup:=by decide +kernel
theorem gA:br ["channel","name","ends","column"] ["channel","name"] (bf (top 1)):=by walk_at "sc"
theorem ft:br ["channel","end"] ["channel","end"] (bf (top 4)):=by walk_at "sc"
theorem eX:br ["channel","name","columns"] ["channel","name"] (bf (top 5)):=by walk_at "sc"
theorem Jt:(["end","channel"]:List Str).Nodup:=by decide +kernel
theorem dX:br ["channel","name"] ["channel","name"] (bf (top 9)):=by walk_at "sc"
theorem BJ:(["column","bent_name","name"]:List Str).Nodup:=by decide +kernel
theorem fQ:br ["channel","name","wide_name","width"] ["channel","name"] (bf (top 3)):=by walk_at "sc"
theorem eY:br ["channel","name","bent","stretch","cuts","borders","width"] ["channel","name","bent"] (bf (top 8)):=by walk_at "sc"
theorem BI:(["first","last","name","width"]:List Str).Nodup:=by decide +kernel
abbrev b8:Stmt:=top 7
theorem dH:br ["channel","bent","pieces","name"] ["channel","bent"] (bf b8):=by walk_at "sc"
theorem xv:(["first","last","tracks"]:List Str).Nodup:=by decide +kernel
theorem fv:br ["_law_found","_law_due","_law_one","_law_other"] ["_law_found","_law_due"] (bf (top 25)):=by walk_at "sc"
theorem IZ:(["_law_part"]:List Str).Nodup:=by decide +kernel
theorem fS:br ["_law_own","_law_stretch_here","_law_cuts","_law_width","_law_k"] ["_law_own","_law_stretch_here","_law_cuts","_law_width"] (bf (top 26)):=by walk_at "sc"
theorem IC:(["_law_piece","_law_width"]:List Str).Nodup:=by decide +kernel
theorem eB:br ["_law_lists","_law_pieces","_law_bent","_law_many_here","_law_names","_law_told","_law_word","_law_stretch_here","_law_own","_law_cuts","_law_width"] ["_law_lists","_law_pieces","_law_bent"] (bf (top 27)):=by walk_at "sc"
theorem xB:(["_law_l","_law_r","_law_k"]:List Str).Nodup:=by decide +kernel
theorem J6:(["_law_piece"]:List Str).Nodup:=by decide +kernel
theorem J5:(["_law_piece","_law_word"]:List Str).Nodup:=by decide +kernel
theorem BG:(["_law_c","_law_other","_law_bent","_law_word"]:List Str).Nodup:=by decide +kernel
theorem BF:(["_law_other","_law_k","_law_word"]:List Str).Nodup:=by decide +kernel
theorem fE:br ["_law_channel_here","_law_lists","_law_told"] ["_law_channel_here","_law_lists"] (bf (top 24)):=by walk_at "sc"
theorem lp:br ["_law_script","_law_lists","_law_channel_here","_law_plain","_law_bent","_law_pieces","_law_kept_here"] ["_law_script"] (bf (top 28)):=by walk_at "sc"
theorem Gx:(["_law_piece"]:List Str).Nodup:=by decide +kernel
variable (T:Txt K mg)
variable (eO:iw P w K mg base 1 "Channel" 7 rH)
include T in
theorem Js(A:At K mg "_law_stem" (top 13)):Known P w K mg base 1 "_law_stem" 2 rm:=gI 0 A fu (fun f bM A outer s H E hr=>have hu:=hr.units;have nd:=fu.nd
 (bK (cZ 2 jS nd)
   (bK (cZ 3 jS nd)
   (bK (km PassesOwn.never rfl (me T.b_range (bp (ba 1) bA)) (cy 4 nd)
    (bK (cZ 3 (bF df (ba 3) (cq (ba 2) (bF eR (ba 0) bu))) nd)
   (bY (cZ 0 (bF gM (ba 0) bu) nd))))
   (bY (dF (ba 3))))))) JI (by walk_at "bn")
variable (di:Known P w K mg base 1 "_law_stem" 2 rm)
include T di in
theorem J4(A:At K mg "_law_named" (top 14)):Known P w K mg base 2 "_law_named" 1 rz:=gI 1 A eZ (fun f bM A outer s H E hr=>have hu:=hr.units;have nd:=eZ.nd
 (bK (cZ 0 (bF eR (bF nK (bF df (bF eR (ba 0) (bF tT bu bu)) bu) bu) (bF df (bF tT bu bu) bu)) nd)
   (bK (cZ 1 (bF eR (ba 0) bu) nd)
   (bK (cZ 2 (ei di hr (bp (bF gM (ba 0) bu) (bp bu bA))) nd)
   (bK (cZ 3 (bF eR (bF gM (ba 0) bu) (bF df (ba 1) bu)) nd)
   (bK (eQ (cS (fW hu) (bF eR (bF gM (ba 0) bu) bu) bu) (bY (dF (jq rfl (.of (N':=["_law_sign","_law_stem_here","_law_at","_law_size"]) (m:=[none,some 2,some 3,some 1]) (by kernel_rfl)) gj (gk jS) (fun s3 H3 ex=>(cy 0 Jx)) (fun s3 H3 ex=>jP) (fun s3 H3 ex=>(bF df (bF df (jw (ba 1) kr (iT (ba 2))) (ba 0)) (jw (ba 1) (iT (ba 2)) (iT (ba 3)))))))) eV)
   (bK (eQ (cS (fW hu) (bF eR (bF gM (ba 0) bu) bu) bu) (bY (dF (jq rfl (.of (N':=["_law_k","_law_stem_here","_law_size"]) (m:=[none,some 2,some 1]) (by kernel_rfl)) gj (me T.b_range (bp bu bA)) (fun s3 H3 ex=>(cy 0 Jw)) (fun s3 H3 ex=>jP) (fun s3 H3 ex=>(bF df (bF df (bF df (jw (ba 1) kr (iT (bF eR (ba 2) bu))) (cq jS (bF gM (ba 0) bu))) (cq jS (bF eR (bF gM (ba 0) bu) bu))) (cq jS (bF eR (ba 0) bu))))))) eV)
   (bK (cZ 4 (bF df (cq jS (ma C2 T.b_int boot_int (bp (qL (fW hu) (cq (ba 2) bu) jS) bA))) (jw (ba 2) (iT bu) kr)) nd)
   (bY (dF (bF df (jq rfl (.of (N':=["_law_k","_law_stem_here"]) (m:=[none,some 2]) (by kernel_rfl)) gj (me T.b_range (bp bu bA)) (fun s3 H3 ex=>(cy 0 Jv)) (fun s3 H3 ex=>jP) (fun s3 H3 ex=>(jw (ba 1) kr (iT (bF df (ba 0) bu))))) (fI (bp (jw (ba 4) kr (iT bu)) (bp (jw (ba 4) kr (iT bu)) bA)))))))))))))) JC (by walk_at "bn")
variable (cW:Known P w K mg base 2 "_law_named" 1 rz)
include T in
theorem IY(A:At K mg "_law_mix" (top 15)):Known P w K mg base 1 "_law_mix" 2 mf:=gI 0 A fR (fun f bM A outer s H E hr=>have hu:=hr.units;have nd:=fR.nd
 (bY (dF (bF gM (bF eR (bF df (bF df (bF nK (bF eR (ba 0) (bF tT bu bu)) (bF df (bF nK (ba 1) (ba 1)) bu)) (bF nK (bF nK (bF nK bu (ba 1)) (ba 1)) (ba 1))) bu) bu) bu)))) Jj (by walk_at "bn")
variable (bC:Known P w K mg base 1 "_law_mix" 2 mf)
include T bC in
theorem Jr(A:At K mg "_law_pins" (top 16)):Known P w K mg base 2 "_law_pins" 4 rj:=gI 1 A fw (fun f bM A outer s H E hr=>have hu:=hr.units;have nd:=fw.nd
 (bK (nN 4 (fI bA) nd)
   (bK (nN 5 (fI bA) nd)
   (bK (km PassesOwn.never rfl (me T.b_range (bp (ba 3) bA)) (cy 6 nd)
    (bK (nN 7 (fI bA) nd)
   (bK (km PassesOwn.never rfl (me T.b_range (bp bu bA)) (cy 8 nd)
    (bK (cZ 9 (bF df (bF nK bu (ba 6)) (ba 8)) nd)
   (bK (cZ 10 (ei bC hr (bp (ba 2) (bp (ba 9) bA))) nd)
   (bK (eQ (cS tQ (ba 9) (fi jm T.b_len boot_len (bp (ba 1) bA))) (bY (cZ 10 (ei bC hr (bp (cq (ba 1) (ba 9)) (bp (ba 9) bA))) nd)) eV)
   (bY (kN 7 (cq (fI (bp (cq (ba 0) (bF eR (ba 10) bu)) (bp (cq (ba 0) (bF eR (bF gM (ba 10) bu) bu)) (bp (cq (ba 0) (bF eR (bF gM (ba 10) bu) bu)) (bp l8 bA))))) (bF eR (bF gM (ba 10) bu) bu))))))))
   (bK (kN 4 (zO 7 bu))
   (bY (kN 5 (zO 7 bu)))))))
   (uj 5 (uj 4 (bY (dF (jQ (bp (ba 4) (bp (ba 5) bA))))))))))) JH (by walk_at "bn")
variable (dk:Known P w K mg base 2 "_law_pins" 4 rj)
include T in
theorem Jq(A:At K mg "_law_open" (top 21)):Known P w K mg base 1 "_law_open" 2 pW:=gI 0 A fA (fun f bM A outer s H E hr=>have hu:=hr.units;have nd:=fA.nd
 (bK (eQ (cS (fW hu) (bF eR (bF gM (ba 1) bu) bu) bu) (bY (dF (fI bA))) eV)
   (bY (dF (fi (wj rfl) T.b_sorted boot_sorted (bp (jq rfl (.of (N':=["_law_k","_law_words","_law_bits"]) (m:=[none,some 0,some 1]) (by kernel_rfl)) gj (me T.b_range (bp bu bA)) (fun s3 H3 ex=>(cy 0 Ja)) (fun s3 H3 ex=>(lb (cS (fW hu) (bF eR (bF gM (ba 2) (cq (fI (bp bu (bp bu (bp bu (bp bu (bp bu (bp bu (bp bu (bp bu bA))))))))) (ba 0))) bu) bu))) (fun s3 H3 ex=>(cq (ba 1) (ba 0)))) bA)))))) JF (by walk_at "bn")
variable (cK:Known P w K mg base 1 "_law_open" 2 pW)
include T in
theorem Jp(A:At K mg "_law_many" (top 17)):Known P w K mg base 1 "_law_many" 5 pX:=gI 0 A fB (fun f bM A outer s H E hr=>have hu:=hr.units;have nd:=fB.nd
 (bK (cZ 5 (bF df (bF df (bF df (ba 0) (ba 1)) (ba 2)) (ba 3)) nd)
   (bY (dF (FO (FN hu) (.inl rfl) PySem.F.plainAttrs_list PySem.F.slot_list_count PySem.F.type_list_count (ba 5) (bp (ba 4) bA)))))) JG (by walk_at "bn")
variable (cL:Known P w K mg base 1 "_law_many" 5 pX)
include T in
theorem JN(A:At K mg "_law_stretch" (top 18)):Known P w K mg base 1 "_law_stretch" 5 p8:=gI 0 A dY (fun f bM A outer s H E hr=>have hu:=hr.units;have nd:=dY.nd
 (bK (Al 5 rfl (.of (N':=["_law_c","_law_word","_law_top","_law_bottom"]) (m:=[none,some 4,some 0,some 1]) (by kernel_rfl)) gj (me T.b_range (bp (fi jm T.b_len boot_len (bp (ba 0) bA)) bA)) (fun s3 H3 ex=>(cy 0 JV)) (fun s3 H3 ex=>(lb (cS (nI hu) (ba 1) (fI (bp (cq (ba 2) (ba 0)) (bp (cq (ba 3) (ba 0)) bA)))))) (fun s3 H3 ex=>(ba 0)) nd)
   (bK (eQ (cS (nI hu) (ba 4) (ba 2)) (bY (kN 5 (t7 bu))) eV)
   (bK (eQ (cS (nI hu) (ba 4) (ba 3)) (bY (kN 5 (fi jm T.b_len boot_len (bp (ba 0) bA)))) eV)
   (uj 5 (bY (dF (jQ (bp (fi (zx rfl) T.b_min boot_min (bp (bF df (ba 5) (fI (bp bu bA))) bA)) (bp (fi (vH rfl) T.b_max boot_max (bp (bF df (ba 5) (fI (bp (t7 bu) bA))) bA)) bA)))))))))) JY (by walk_at "bn")
variable (bL:Known P w K mg base 1 "_law_stretch" 5 p8)
include T bC bL in
theorem J3(A:At K mg "_law_bends" (top 19)):Known P w K mg base 2 "_law_bends" 4 rq:=gI 1 A e8 (fun f bM A outer s H E hr=>have hu:=hr.units;have nd:=e8.nd
 (bK (vQ (ba 0) (FK rfl (fj (cy 4 nd) (fj (cy 5 nd) (fj (cy 6 nd) (fj (cy 7 nd) ku))))))
   (bK (nN 8 (fI bA) nd)
   (bK (km PassesOwn.never rfl (me T.b_range (bp (fi jm T.b_len boot_len (bp (ba 4) bA)) bA)) (cy 9 nd)
    (bK (cZ 10 (ei bC hr (bp (cq (bF df (ba 2) (fI (bp (ba 3) bA))) (bF eR (ba 9) (bF df (fi jm T.b_len boot_len (bp (ba 2) bA)) bu))) (bp (bF df (ba 9) bu) bA))) nd)
   (bK (cZ 11 (cq (ba 1) (bF eR (ba 10) bu)) nd)
   (bK (eQ (oF (cS (fW hu) (bF eR (bF gM (ba 10) bu) bu) bu) (q5 (cS wb (cq (ba 4) (ba 9)) l8))).pb (bY (cZ 11 (cq (ba 4) (ba 9)) nd)) eV)
   (bK (vQ (ei bL hr (bp (ba 4) (bp (ba 5) (bp (ba 6) (bp (ba 7) (bp (ba 11) bA)))))) (kP rfl (fj (cy 12 nd) (fj (cy 13 nd) ku))))
   (bK (oB 14 rfl (.of (N':=["_law_x"]) (m:=[none]) (by kernel_rfl)) gj (gk (fI (bp (cq (ba 4) (ba 9)) (bp (cq (ba 5) (ba 9)) bA)))) (fun s3 H3 ex=>(cy 0 Ju)) (fun s3 H3 ex=>(lb (cS wb (ba 0) l8))) (fun s3 H3 ex=>(ba 0)) nd)
   (bY (eQ (oF (cS tQ (ba 12) (ba 9)) (oF (cS tQ (ba 9) (ba 13)) (oF (mN (cS (fW hu) (ba 14) (fI bA)) (oG (cS (nI hu) (ba 11) (ba 14)))).pb (q5 (cS zb (bF eR (bF gM (ba 10) bu) bu) bu))))).pb (bY (kN 8 (jQ (bp (ba 9) (bp (ba 11) bA))))) eV))))))))
   (bY (ui 8)))))) JB (by walk_at "bn")
variable (cY:Known P w K mg base 2 "_law_bends" 4 rq)
include T bC in
theorem J2(A:At K mg "_law_keeps" (top 20)):Known P w K mg base 2 "_law_keeps" 3 rp:=gI 1 A e7 (fun f bM A outer s H E hr=>have hu:=hr.units;have nd:=e7.nd
 (bK (nN 3 (fI bA) nd)
   (bK (km PassesOwn.never rfl (AL T.b_enumerate (bp (jw (ba 1) kr (iT bu)) bA)) (kP rfl (fj (cy 4 nd) (fj (cy 5 nd) ku)))
    (bK (cZ 6 (ei bC hr (bp (bF df (ba 5) (ba 2)) (bp (bF df (ba 4) bu) bA))) nd)
   (bK (cZ 7 (bF eR (ba 6) (ba 0)) nd)
   (bY (eQ (cS (fW hu) (bF eR (bF gM (ba 6) bu) bu) bu) (bY (kN 3 (jQ (bp (ba 7) (bp (bF df (ba 7) (bF eR (bF gM (ba 6) bu) (bF zD (ba 0) (ba 7)))) (bp (bF df bu (bF eR (bF gM (ba 6) bu) bu)) bA)))))) eV)))))
   (bY (ui 3))))) JA (by walk_at "bn")
variable (cX:Known P w K mg base 2 "_law_keeps" 3 rp)
include T cW bC dk cK cL cY cX in
theorem JM(A:At K mg "_law_channel" (top 22)):Known P w K mg base 3 "_law_channel" 2 rM:=gI 2 A dZ (fun f bM A outer s H E hr=>have hu:=hr.units;have nd:=dZ.nd
 (bK (cZ 2 (bF eR (bF nK (bF eR (fi (vI rfl) T.b_sum boot_sum (bp (jw (ba 0) kr (iT bu)) bA)) (bF tT bu bu)) bu) bu) nd)
   (bK (cZ 3 (ei cW hr (bp (fi (vI rfl) T.b_sum boot_sum (bp (jw (ba 0) kr (iT bu)) bA)) bA)) nd)
   (bK (cZ 4 (bF df bu (bF eR (ba 2) (ba 1))) nd)
   (bK (cZ 5 (jw (ba 0) (iT bu) kr) nd)
   (bK (vQ (ei dk hr (bp (ba 3) (bp (ba 5) (bp (ba 2) (bp (ba 4) bA))))) (kP rfl (fj (cy 6 nd) (fj (cy 7 nd) ku))))
   (bK (cZ 8 (ei bC hr (bp (fi (vI rfl) T.b_sum boot_sum (bp (jw (ba 0) (iT bu) (iT bu)) bA)) (bp (bF df bu (bF eR (ba 2) bu)) bA))) nd)
   (bK (cZ 9 (ei cK hr (bp (ba 3) (bp (ba 8) bA))) nd)
   (bK (cZ 10 (ei cK hr (bp (ba 3) (bp (bF gM (ba 8) bu) bA))) nd)
   (bK (cZ 11 (jq rfl (.of (N':=["_law_word","_law_top","_law_bottom","_law_left","_law_right"]) (m:=[none,some 6,some 7,some 9,some 10]) (by kernel_rfl)) gj (gk (ba 3)) (fun s3 H3 ex=>(cy 0 JU)) (fun s3 H3 ex=>(lb (cS (fW hu) (ei cL hr (bp (ba 1) (bp (ba 2) (bp (ba 3) (bp (ba 4) (bp (ba 0) bA)))))) bu))) (fun s3 H3 ex=>(ba 0))) nd)
   (bK (cZ 6 (jq rfl (.of (N':=["_law_word","_law_lone"]) (m:=[none,some 11]) (by kernel_rfl)) gj (gk (ba 6)) (fun s3 H3 ex=>(cy 0 JT)) (fun s3 H3 ex=>jP) (fun s3 H3 ex=>(wq (cS (nI hu) (ba 0) (ba 1)) l8 (ba 0)))) nd)
   (bK (cZ 7 (jq rfl (.of (N':=["_law_word","_law_lone"]) (m:=[none,some 11]) (by kernel_rfl)) gj (gk (ba 7)) (fun s3 H3 ex=>(cy 0 JS)) (fun s3 H3 ex=>jP) (fun s3 H3 ex=>(wq (cS (nI hu) (ba 0) (ba 1)) l8 (ba 0)))) nd)
   (bK (cZ 9 (jq rfl (.of (N':=["_law_word","_law_lone"]) (m:=[none,some 11]) (by kernel_rfl)) gj (gk (ba 9)) (fun s3 H3 ex=>(cy 0 JR)) (fun s3 H3 ex=>(lb (cS (An hu) (ba 0) (ba 1)))) (fun s3 H3 ex=>(ba 0))) nd)
   (bK (cZ 10 (jq rfl (.of (N':=["_law_word","_law_lone"]) (m:=[none,some 11]) (by kernel_rfl)) gj (gk (ba 10)) (fun s3 H3 ex=>(cy 0 JQ)) (fun s3 H3 ex=>(lb (cS (An hu) (ba 0) (ba 1)))) (fun s3 H3 ex=>(ba 0))) nd)
   (bK (nN 12 (fI bA) nd)
   (bK (km PassesOwn.never rfl (AL T.b_enumerate (bp (fi (wj rfl) T.b_sorted boot_sorted (bp (ba 3) bA)) bA)) (kP rfl (fj (cy 13 nd) (fj (cy 14 nd) ku)))
    (bK (cZ 15 (ei bC hr (bp (bF df (ba 2) (ba 13)) (bp bu bA))) nd)
   (bY (eQ (oF (cS (fW hu) (bF eR (ba 15) bu) bu) (q5 (cS zb (ei cL hr (bp (ba 6) (bp (ba 7) (bp (ba 9) (bp (ba 10) (bp (ba 14) bA)))))) bu))).pb (bY (kN 12 (jQ (bp (ba 14) (bp (bF df bu (bF eR (bF gM (ba 15) bu) bu)) bA))))) eV))))
   (bK (cZ 16 (ei cY hr (bp (fI (bp (ba 6) (bp (ba 7) (bp (ba 9) (bp (ba 10) bA))))) (bp (ba 3) (bp (ba 5) (bp (ba 2) bA))))) nd)
   (bK (cZ 17 (fI bA) nd)
   (bK (eQ (cS (fW hu) (bF eR (bF gM (ba 2) bu) bu) bu) (bY (cZ 17 (ei cX hr (bp (ba 4) (bp (ba 5) (bp (ba 2) bA)))) nd)) eV)
   (uj 12 (bY (dF (fI (bp (ba 6) (bp (ba 7) (bp (ba 9) (bp (ba 10) (bp (ba 12) (bp (ba 16) (bp (ba 17) bA)))))))))))))))))))))))))))))) JX (by walk_at "bn")
variable (cx:Known P w K mg base 3 "_law_channel" 2 rM)
include T eO in
theorem Jo(A:At K mg "_law_made" (top 23)):Known P w K mg base 3 "_law_made" 1 ri:=gI 2 A fD (fun f bM A outer s H E hr=>have hu:=hr.units;have nd:=fD.nd
 (bK (oB 1 rfl (.of (N':=["_law_one"]) (m:=[none]) (by kernel_rfl)) gj (gk (ba 0)) (fun s3 H3 ex=>(cy 0 I0)) (fun s3 H3 ex=>jP) (fun s3 H3 ex=>(ma mK T.b_list boot_list (bp (ba 0) bA))) nd)
   (bY (dF (Gw eO hr (bp (cq (ba 1) bu) (bp (cq (ba 1) bu) (bp (cq (ba 1) bu) (bp (cq (ba 1) bu) (bp (cq (ba 1) bu) (bp (cq (ba 1) bu) (bp (cq (ba 1) bu) bA)))))))))))) JE (by walk_at "bn")
variable (dm:Known P w K mg base 3 "_law_made" 1 ri)
include T in
theorem IB(A:At K mg "nets_of" (top 2)):Known P w K mg base 1 "nets_of" 1 oH:=gI 0 A gz (fun f bM A outer s H E hr=>have hu:=hr.units;have nd:=gz.nd
 (bK (oB 1 rfl (.of (N':=["name"]) (m:=[none]) (by kernel_rfl)) gj (gk (bF df (g9 (ba 0)) (g9 (ba 0)))) (fun s3 H3 ex=>(cy 0 IG)) (fun s3 H3 ex=>(lb (cS wb (ba 0) l8))) (fun s3 H3 ex=>(ba 0)) nd)
   (bY (dF (IP rfl T.b_sorted T.b_set (bp (bF df (bF df (ba 1) (g9 (ba 0))) (g9 (ba 0))) bA)))))) IH (by walk_at "bn")
variable (c6:Known P w K mg base 1 "nets_of" 1 oH)
include T in
theorem IA(A:At K mg "ends_of" (top 1)):Known P w K mg base 1 "ends_of" 2 rG:=gI 0 A gA (fun f bM A outer s H E hr=>have hu:=hr.units;have nd:=gA.nd
 (bK (nN 2 (fI bA) nd)
   (bK (eQ (cS (nI hu) (ba 1) (g9 (ba 0))) (bY (kN 2 (jQ (bp jS bA)))) eV)
   (bK (km PassesOwn.never rfl (me T.b_range (bp (fi jm T.b_len boot_len (bp (g9 (ba 0)) bA)) bA)) (cy 3 nd)
    (bK (eQ (cS (fW hu) (cq (g9 (ba 0)) (ba 3)) (ba 1)) (bY (kN 2 (jQ (bp jS (bp (ba 3) bA))))) eV)
   (bY (eQ (cS (fW hu) (cq (g9 (ba 0)) (ba 3)) (ba 1)) (bY (kN 2 (jQ (bp jS (bp (ba 3) bA))))) eV))))
   (bK (eQ (cS (nI hu) (ba 1) (g9 (ba 0))) (bY (kN 2 (jQ (bp jS bA)))) eV)
   (bY (ui 2))))))) II (by walk_at "bn")
variable (eN:Known P w K mg base 1 "ends_of" 2 rG)
include T in
theorem Jn(A:At K mg "column_of" (top 4)):Known P w K mg base 1 "column_of" 2 rE:=gI 0 A ft (fun f bM A outer s H E hr=>have hu:=hr.units;have nd:=ft.nd
 (bK (eQ (cS (fW hu) (cq (ba 1) bu) jS) (bY (dF (t7 bu))) eV)
   (bK (eQ (cS (fW hu) (cq (ba 1) bu) jS) (bY (dF (fi jm T.b_len boot_len (bp (g9 (ba 0)) bA)))) eV)
   (bY (dF (cq (ba 1) bu)))))) Jd (by walk_at "bn")
variable (dh:Known P w K mg base 1 "column_of" 2 rE)
include T eN dh in
theorem J1(A:At K mg "stretch_of" (top 5)):Known P w K mg base 2 "stretch_of" 2 rn:=gI 1 A eX (fun f bM A outer s H E hr=>have hu:=hr.units;have nd:=eX.nd
 (bK (oB 2 rfl (.of (N':=["end","channel"]) (m:=[none,some 0]) (by kernel_rfl)) gj (gk (ei eN hr (bp (ba 0) (bp (ba 1) bA)))) (fun s3 H3 ex=>(cy 0 Jt)) (fun s3 H3 ex=>jP) (fun s3 H3 ex=>(ei dh hr (bp (ba 1) (bp (ba 0) bA)))) nd)
   (bK (eQ (cS tQ (GL rfl T.b_len T.b_set (bp (ba 2) bA)) bu) (bY (dF l8)) eV)
   (bY (dF (jQ (bp (fi (zx rfl) T.b_min boot_min (bp (ba 2) bA)) (bp (fi (vH rfl) T.b_max boot_max (bp (ba 2) bA)) bA)))))))) Jz (by walk_at "bn")
variable (cV:Known P w K mg base 2 "stretch_of" 2 rn)
include T in
theorem JL(A:At K mg "bend_columns" (top 9)):Known P w K mg base 1 "bend_columns" 2 rN:=gI 0 A dX (fun f bM A outer s H E hr=>have hu:=hr.units;have nd:=dX.nd
 (bY (dF (jq rfl (.of (N':=["column","bent_name","name"]) (m:=[none,none,some 1]) (by kernel_rfl)) uB (gk (g9 (ba 0))) (fun s3 H3 ex=>(kP rfl (fj (cy 0 BJ) (fj (cy 1 BJ) ku)))) (fun s3 H3 ex=>(lb (cS (fW hu) (ba 1) (ba 2)))) (fun s3 H3 ex=>(ba 0)))))) JW (by walk_at "bn")
variable (cw:Known P w K mg base 1 "bend_columns" 2 rN)
include T in
theorem IX(A:At K mg "width_of" (top 3)):Known P w K mg base 1 "width_of" 2 pV:=gI 0 A fQ (fun f bM A outer s H E hr=>have hu:=hr.units;have nd:=fQ.nd
 (bK (km PassesOwn.never rfl (gk (g9 (ba 0))) (kP rfl (fj (cy 2 nd) (fj (cy 3 nd) ku)))
    (bY (eQ (cS (fW hu) (ba 2) (ba 1)) (bY (dF (ba 3))) eV)))
   (bY (dF bu)))) Ji (by walk_at "bn")
variable (dQ:Known P w K mg base 1 "width_of" 2 pV)
include T cV cw dQ in
theorem JZ(A:At K mg "net_pieces" (top 8)):Known P w K mg base 3 "net_pieces" 3 oJ:=gI 2 A eY (fun f bM A outer s H E hr=>have hu:=hr.units;have nd:=eY.nd
 (bK (cZ 3 (ei cV hr (bp (ba 0) (bp (ba 1) bA))) nd)
   (bK (eQ (cS Dy (ba 3) l8) (bY (dF (fI bA))) eV)
   (bK (cZ 4 (wq (jR (ba 2)) (ei cw hr (bp (ba 0) (bp (ba 1) bA))) (fI bA)) nd)
   (bK (cZ 5 (bF df (bF df (fI (bp (cq (ba 3) bu) bA)) (ba 4)) (fI (bp (cq (ba 3) bu) bA))) nd)
   (bK (cZ 6 (ei dQ hr (bp (ba 0) (bp (ba 1) bA))) nd)
   (bY (dF (jq rfl (.of (N':=["first","last","name","width"]) (m:=[none,none,some 1,some 6]) (by kernel_rfl)) uB (Am T.b_zip (bp (ba 5) (bp (jw (ba 5) (iT bu) kr) bA))) (fun s3 H3 ex=>(kP rfl (fj (cy 0 BI) (fj (cy 1 BI) ku)))) (fun s3 H3 ex=>jP) (fun s3 H3 ex=>(jQ (bp (ba 2) (bp (ba 0) (bp (ba 1) (bp (ba 3) bA))))))))))))))) Jy (by walk_at "bn")
variable (cc:Known P w K mg base 3 "net_pieces" 3 oJ)
theorem IF(T:Txt K mg)(c6:Known P w K mg base 1 "nets_of" 1 oH)(cc:Known P w K mg base 3 "net_pieces" 3 oJ){f:Addr}(bM:Value)(A:Around)(outer:List Env)(s:Shared)(H:Hp)(E:XK)(hr:cm 3 (A.deeper (envOfC "pieces_of" (bf b8) s.heap.objs.size f bM))) :
  j8 (kJ iO P w K mg base ["channel","bent","pieces","name"] "pieces_of" (bf b8) f bM A outer s H E).mn (bN b8) uD:=by
 have hu:=hr.units
 exact(bK (Al 2 rfl (.of (N':=["first","last","tracks"]) (m:=[none,none,none]) (by kernel_rfl)) Bx (gk (g9 (ba 0))) (fun s3 H3 ex=>(kP rfl (fj (cy 0 xv) (fj (cy 1 xv) (fj (cy 2 xv) ku))))) (fun s3 H3 ex=>jP) (fun s3 H3 ex=>(jQ (bp l8 (bp (ba 0) (bp (ba 1) (bp (ba 2) bA)))))) dH.nd)
   (bK (km PassesOwn.never rfl (gk (ei c6 hr (bp (ba 0) bA))) (cy 3 dH.nd)
    (bY (DL 2 (ei cc hr (bp (ba 0) (bp (ba 3) (bp (ba 1) bA)))))))
   (bY (ui 2))))
theorem Jm(A:vp K mg "pieces_of" b8 [.bool false])(T:Txt K mg)(c6:Known P w K mg base 1 "nets_of" 1 oH)(cc:Known P w K mg base 3 "net_pieces" 3 oJ):fM P w K mg base 4 "pieces_of" 2 oK false:=by
 obtain⟨_,f,fd,_,_,F,hm,lk,hd⟩:=A.ex;exact⟨f,fd,["channel","bent"],v7 F dH (IF T c6 cc) Jc,hm,F.kp,F.lR 2 lk hd (fun _ _ _ _ _ _ us hl=>match us,hl with | [_,_],_=>⟨_,rfl,rfl⟩),F.lR 1 lk hd (fun _ _ _ _ _ _ us hl=>match us,hl with | [_],_=>⟨_,rfl,rfl⟩)⟩
variable (cu:fM P w K mg base 4 "pieces_of" 2 oK false)
include T in
theorem Jl(A:At K mg "_law_same" (top 25)):Known P w K mg base 1 "_law_same" 2 nT:=gI 0 A fv (fun f bM A outer s H E hr=>have hu:=hr.units;have nd:=fv.nd
 (bK (eQ (mN (k8 (jR (qQ (ba 0) T.b_isinstance T.b_list boot_list))) (oG (cS (mG hu) (fi jm T.b_len boot_len (bp (ba 0) bA)) (fi jm T.b_len boot_len (bp (ba 1) bA))))).pb (bY (dF jv)) eV)
   (bK (km PassesOwn.never rfl (Am T.b_zip (bp (ba 0) (bp (ba 1) bA))) (kP rfl (fj (cy 2 nd) (fj (cy 3 nd) ku)))
    (bY (eQ (mN (k8 (jR (qQ (ba 2) T.b_isinstance T.b_tuple boot_tuple))) (mN (cS (mG hu) (ba 2) (ba 3)) (oG (jR (fi (C5 rfl) T.b_any boot_any (bp (jq rfl (.of (N':=["_law_part"]) (m:=[none]) (by kernel_rfl)) gj (gk (ba 2)) (fun s3 H3 ex=>(cy 0 IZ)) (fun s3 H3 ex=>jP) (fun s3 H3 ex=>(qQ (ba 0) T.b_isinstance T.b_bool boot_bool))) bA)))))).pb (bY (dF jv)) eV)))
   (bY (dF jv))))) Jb (by walk_at "bn")
variable (bO:Known P w K mg base 1 "_law_same" 2 nT)
include T in
theorem IW(A:At K mg "_law_cut" (top 26)):Known P w K mg base 1 "_law_cut" 4 rD:=gI 0 A fS (fun f bM A outer s H E hr=>have hu:=hr.units;have nd:=fS.nd
 (bK (eQ (mN (cS (mG hu) (fi jm T.b_len boot_len (bp (ba 0) bA)) (bF df (fi jm T.b_len boot_len (bp (ba 2) bA)) bu)) (mN (cS (mG hu) (cq (cq (ba 0) bu) bu) (cq (ba 1) bu)) (oG (cS (mG hu) (cq (cq (ba 0) (t7 bu)) bu) (cq (ba 1) bu))))).pb (bY (dF jv)) eV)
   (bK (km PassesOwn.never rfl (me T.b_range (bp (fi jm T.b_len boot_len (bp (ba 2) bA)) bA)) (cy 4 nd)
    (bY (eQ (mN (cS (mG hu) (cq (cq (ba 0) (ba 4)) bu) (cq (ba 2) (ba 4))) (oG (cS (mG hu) (cq (cq (ba 0) (bF df (ba 4) bu)) bu) (cq (ba 2) (ba 4))))).pb (bY (dF jv)) eV)))
   (bY (dF (fi (zy rfl) T.b_all boot_all (bp (jq rfl (.of (N':=["_law_piece","_law_width"]) (m:=[none,some 3]) (by kernel_rfl)) gj (gk (ba 0)) (fun s3 H3 ex=>(cy 0 IC)) (fun s3 H3 ex=>jP) (fun s3 H3 ex=>(qL (fW hu) (cq (ba 0) bu) (ba 1)))) bA))))))) Jh (by walk_at "bn")
variable (dR:Known P w K mg base 1 "_law_cut" 4 rD)
include T bL bO dR in
theorem JP(A:At K mg "_law_stands" (top 27)):Known P w K mg base 2 "_law_stands" 3 rB:=gI 1 A eB (fun f bM A outer s H E hr=>have hu:=hr.units;have nd:=eB.nd
 (bK (cZ 3 (fi jm T.b_len boot_len (bp (cq (ba 0) bu) bA)) nd)
   (bK (eQ (k8 (jR (ei bO hr (bp (jw (ba 1) kr (iT (ba 3))) (bp (jq rfl (.of (N':=["_law_l","_law_r","_law_k"]) (m:=[none,none,none]) (by kernel_rfl)) Bx (gk (cq (ba 0) bu)) (fun s3 H3 ex=>(kP rfl (fj (cy 0 xB) (fj (cy 1 xB) (fj (cy 2 xB) ku))))) (fun s3 H3 ex=>jP) (fun s3 H3 ex=>(jQ (bp l8 (bp (ba 0) (bp (ba 1) (bp (ba 2) bA))))))) bA))))) (bY (dF jv)) eV)
   (bK (oB 4 rfl (.of (N':=["_law_piece"]) (m:=[none]) (by kernel_rfl)) gj (gk (jw (ba 1) (iT (ba 3)) kr)) (fun s3 H3 ex=>(cy 0 J6)) (fun s3 H3 ex=>jP) (fun s3 H3 ex=>(cq (ba 0) bu)) nd)
   (bK (eQ (cS (mG hu) (ba 4) (fi (wj rfl) T.b_sorted boot_sorted (bp (ba 4) bA))) (bY (dF jv)) eV)
   (bK (cZ 5 bu nd)
   (bK (km PassesOwn.never rfl (gk (IS rfl T.b_sorted T.b_set (bp (bF df (bF df (bF df (cq (ba 0) bu) (cq (ba 0) bu)) (cq (ba 0) bu)) (cq (ba 0) bu)) bA))) (cy 6 nd)
    (bK (cZ 7 (ei bL hr (bp (cq (ba 0) bu) (bp (cq (ba 0) bu) (bp (cq (ba 0) bu) (bp (cq (ba 0) bu) (bp (ba 6) bA)))))) nd)
   (bK (oB 8 rfl (.of (N':=["_law_piece","_law_word"]) (m:=[none,some 6]) (by kernel_rfl)) gj (gk (ba 1)) (fun s3 H3 ex=>(cy 0 J5)) (fun s3 H3 ex=>(lb (cS (fW hu) (cq (ba 0) bu) (ba 1)))) (fun s3 H3 ex=>(ba 0)) nd)
   (bK (oB 9 rfl (.of (N':=["_law_c","_law_other","_law_bent","_law_word"]) (m:=[none,none,some 2,some 6]) (by kernel_rfl)) uB (gk (cq (ba 0) bu)) (fun s3 H3 ex=>(kP rfl (fj (cy 0 BG) (fj (cy 1 BG) ku)))) (fun s3 H3 ex=>(lb (oF (jR (ba 2)) (q5 (cS (fW hu) (ba 1) (ba 3)))).pb)) (fun s3 H3 ex=>(ba 0)) nd)
   (bK (cZ 10 (fi (vH rfl) T.b_max boot_max (bp (bF df (fI (bp bu bA)) (jq rfl (.of (N':=["_law_other","_law_k","_law_word"]) (m:=[none,none,some 6]) (by kernel_rfl)) uB (gk (cq (ba 0) bu)) (fun s3 H3 ex=>(kP rfl (fj (cy 0 BF) (fj (cy 1 BF) ku)))) (fun s3 H3 ex=>(lb (cS (fW hu) (ba 0) (ba 2)))) (fun s3 H3 ex=>(ba 1)))) bA)) nd)
   (bK (eQ (cS (fW hu) (cq (ba 7) bu) (cq (ba 7) bu)) (bY (eQ (cS (mG hu) (ba 8) (fI bA)) (bY (dF jv)) eV)) (bY (eQ (k8 (jR (ei dR hr (bp (ba 8) (bp (ba 7) (bp (ba 9) (bp (ba 10) bA))))))) (bY (dF jv)) eV)))
   (bY (cZ 5 (bF df (ba 5) (fi jm T.b_len boot_len (bp (ba 8) bA))) nd))))))))
   (bY (dF (qL (fW hu) (ba 5) (bF zD (fi jm T.b_len boot_len (bp (ba 1) bA)) (ba 3)))))))))))) J7 (by walk_at "bn")
variable (cF:Known P w K mg base 2 "_law_stands" 3 rB)
include T in
theorem JJ(A:At K mg "_law_kept" (top 24)):Known P w K mg base 1 "_law_kept" 2 rF:=gI 0 A fE (fun f bM A outer s H E hr=>have hu:=hr.units;have nd:=fE.nd
 (bK (cZ 2 (fI (bp (g9 (ba 0)) (bp (g9 (ba 0)) (bp (g9 (ba 0)) (bp (g9 (ba 0)) (bp (g9 (ba 0)) (bp (g9 (ba 0)) (bp (g9 (ba 0)) bA)))))))) nd)
   (bY (dF (qL (fW hu) (ba 2) (ba 1)))))) JD (by walk_at "bn")
variable (dn:Known P w K mg base 1 "_law_kept" 2 rF)
include T cx dm cu bO cF dn in
theorem D2  {f:Addr} (bM:Value) (A:Around) (outer:List Env) (s:Shared) (H:Hp) (E:XK) (hr:cm 4 (A.deeper (envOfC "law" (bf (top 28)) s.heap.objs.size f bM))) :
  j8 (kJ iO P w K mg base ["_law_script","_law_lists","_law_channel_here","_law_plain","_law_bent","_law_pieces","_law_kept_here"] "law" (bf (top 28)) f bM A outer s H E).mn (bN (top 28)) qH:=
 have hu:=hr.units;have nd:=lp.nd
 (bK (cZ 1 (ei cx hr (bp (ba 0) (bp bu bA))) nd)
   (bK (cZ 2 (ei dm hr (bp (ba 1) bA)) nd)
   (bK (cZ 3 (GF cu hr (bp (ba 2) bA)) nd)
   (bK (km PassesOwn.never rfl (gk (jQ (bp jv (bp jv bA)))) (cy 4 nd)
    (bK (nN 5 (ei cu.all hr (bp (ba 2) (bp (ba 4) bA))) nd)
   (bK (eQ (mN (k8 (jR (uf 5 (qQ (ba 5) T.b_isinstance T.b_list boot_list)))) (oG (k8 (jR (uf 5 (fi (zy rfl) T.b_all boot_all (bp (jq rfl (.of (N':=["_law_piece"]) (m:=[none]) (by kernel_rfl)) gj (gk (ba 5)) (fun s3 H3 ex=>(cy 0 Gx)) (fun s3 H3 ex=>jP) (fun s3 H3 ex=>(DP (qQ (ba 0) T.b_isinstance T.b_tuple boot_tuple) (DQ (qL (fW hu) (fi jm T.b_len boot_len (bp (ba 0) bA)) bu))))) bA))))))).pb (bY (dF jv)) eV)
   (bK (eQ (mN (k8 (jR (uf 5 (ei bO hr (bp (ba 5) (bp (ma mK T.b_list boot_list (bp (ba 5) bA)) bA)))))) (oG (k8 (jR (uf 5 (ei cF hr (bp (ba 1) (bp (ba 5) (bp (ba 4) bA))))))))).pb (bY (dF jv)) eV)
   (bK (cZ 6 (Gm 5 T.b_list) nd)
   (bK (Gn 5)
   (bK (eQ (k8 (jR (ei bO hr (bp (ei cu.all hr (bp (ba 2) (bp (ba 4) bA))) (bp (ba 6) bA))))) (bY (dF jv)) eV)
   (bY (eQ (oF (k8 (jR (ba 4))) (q5 (k8 (jR (ei bO hr (bp (ba 3) (bp (ba 6) bA))))))).pb (bY (dF jv)) eV)))))))))
   (bY (dF (ei dn hr (bp (ba 2) (bp (ba 1) bA)))))))))
theorem oV{fa:Addr}(T:Txt K mg)(fO:vq K mg "Channel" "Channel.__init__" eK ["top","bottom","left","right","wide","bends","keeps"])(AA:At K mg "_law_stem" (top 13)/\At K mg "_law_named" (top 14)/\At K mg "_law_mix" (top 15)/\At K mg "_law_pins" (top 16)/\At K mg "_law_open" (top 21)/\At K mg "_law_many" (top 17)/\At K mg "_law_stretch" (top 18)/\At K mg "_law_bends" (top 19)/\At K mg "_law_keeps" (top 20)/\At K mg "_law_channel" (top 22)/\At K mg "_law_made" (top 23)/\At K mg "nets_of" (top 2)/\At K mg "ends_of" (top 1)/\At K mg "column_of" (top 4)/\At K mg "stretch_of" (top 5)/\At K mg "bend_columns" (top 9)/\At K mg "width_of" (top 3)/\At K mg "net_pieces" (top 8)/\At K mg "_law_same" (top 25)/\At K mg "_law_cut" (top 26)/\At K mg "_law_stands" (top 27)/\At K mg "_law_kept" (top 24)/\At K mg "law" (top 28)/\True)(eI:vp K mg "pieces_of" b8 [.bool false])  (nk:mg "law"=some (.ref fa)):∃fd:FuncData,(∀(s:Shared) (u:Value),BindsTo s fd ⟨[u],[]⟩ [("_law_script",u)])/\∀base:Heap,eT P w K mg base iO 5 fa fd ["_law_script"] (pz K 1 (vJ 63)):=by
 obtain⟨je,iB,jM,jg,jh,ji,gF,iD,iC,gG,jj,kF,kG,jd,iz,gE,jL,iA,jf,jN,gW,jk,tJ,_⟩:=AA;refine DO (T:=fun _=>qH) tJ nk lp (by walk_at "bn") (fun base f bM A outer s H E hr=>?_) (fun _=>Gy);have eO:iw P w K mg base 1 "Channel" 7 rH:=ID fO T;have di:Known P w K mg base 1 "_law_stem" 2 rm:=Js T je;have cW:Known P w K mg base 2 "_law_named" 1 rz:=J4 T di iB;have bC:Known P w K mg base 1 "_law_mix" 2 mf:=IY T jM;have dk:Known P w K mg base 2 "_law_pins" 4 rj:=Jr T bC jg;have cK:Known P w K mg base 1 "_law_open" 2 pW:=Jq T jh;have cL:Known P w K mg base 1 "_law_many" 5 pX:=Jp T ji;have bL:Known P w K mg base 1 "_law_stretch" 5 p8:=JN T gF;have cY:Known P w K mg base 2 "_law_bends" 4 rq:=J3 T bC bL iD;have cX:Known P w K mg base 2 "_law_keeps" 3 rp:=J2 T bC iC;have cx:Known P w K mg base 3 "_law_channel" 2 rM:=JM T cW bC dk cK cL cY cX gG;have dm:Known P w K mg base 3 "_law_made" 1 ri:=Jo T eO jj;have c6:Known P w K mg base 1 "nets_of" 1 oH:=IB T kF;have eN:Known P w K mg base 1 "ends_of" 2 rG:=IA T kG;have dh:Known P w K mg base 1 "column_of" 2 rE:=Jn T jd;have cV:Known P w K mg base 2 "stretch_of" 2 rn:=J1 T eN dh iz;have cw:Known P w K mg base 1 "bend_columns" 2 rN:=JL T gE;have dQ:Known P w K mg base 1 "width_of" 2 pV:=IX T jL;have cc:Known P w K mg base 3 "net_pieces" 3 oJ:=JZ T cV cw dQ iA;have cu:fM P w K mg base 4 "pieces_of" 2 oK false:=Jm eI T c6 cc;have bO:Known P w K mg base 1 "_law_same" 2 nT:=Jl T jf;have dR:Known P w K mg base 1 "_law_cut" 4 rD:=IW T jN;have cF:Known P w K mg base 2 "_law_stands" 3 rB:=JP T bL bO dR gW;have dn:Known P w K mg base 1 "_law_kept" 2 rF:=JJ T jk;exact D2 T cx dm cu bO cF dn bM A outer s H E hr
end
end Wc
open PySem PySem.W PyProof.Rows
theorem PySem.W.Fast.te7421987308697333868:True:=trivial
noncomputable def PySem.W.Fast.tw3074834144469414174:PySem.Program:=PySem.Challenge.pw_wirechannel_k13_pieces
theorem PySem.W.Fast.te3074834144469414174:PySem.Challenge.pw_wirechannel_k13_pieces=PySem.W.Fast.tw3074834144469414174:=rfl
noncomputable def PySem.W.Fast.tw7910453639853623981:List PySem.Stmt:=(PySem.Challenge.pw_wirechannel_k13_pieces.main.body.drop 0).take 11
theorem PySem.W.Fast.te7910453639853623981:(PySem.Challenge.pw_wirechannel_k13_pieces.main.body.drop 0).take 11=PySem.W.Fast.tw7910453639853623981:=rfl
noncomputable def PySem.W.Fast.tw9152118856032375908:List PySem.Stmt:=(PySem.Challenge.pw_wirechannel_k13_pieces.main.body.drop 11).take 6
theorem PySem.W.Fast.te9152118856032375908:(PySem.Challenge.pw_wirechannel_k13_pieces.main.body.drop 11).take 6=PySem.W.Fast.tw9152118856032375908:=rfl
noncomputable def PySem.W.Fast.tw3485366009539367949:List PySem.Stmt:=(PySem.Challenge.pw_wirechannel_k13_pieces.main.body.drop 17).take 12
theorem PySem.W.Fast.te3485366009539367949:(PySem.Challenge.pw_wirechannel_k13_pieces.main.body.drop 17).take 12=PySem.W.Fast.tw3485366009539367949:=rfl
noncomputable def PySem.W.Fast.tw18184010394193003281:PySem.Program:={ PySem.Challenge.pw_wirechannel_k13_pieces with main:={ PySem.Challenge.pw_wirechannel_k13_pieces.main with body:=[1,2,3,4,5,8,9,11,13,14,15,16,17,18,19,20,21,22,23,24,25,26,27,28].map fun i=>PySem.Challenge.pw_wirechannel_k13_pieces.main.body.getD i (.Pass ⟨0,0,0,0⟩) } }
theorem PySem.W.Fast.te18184010394193003281:({ PySem.Challenge.pw_wirechannel_k13_pieces with main:={ PySem.Challenge.pw_wirechannel_k13_pieces.main with body:=[1,2,3,4,5,8,9,11,13,14,15,16,17,18,19,20,21,22,23,24,25,26,27,28].map fun i=>PySem.Challenge.pw_wirechannel_k13_pieces.main.body.getD i (.Pass ⟨0,0,0,0⟩) } }:PySem.Program)=PySem.W.Fast.tw18184010394193003281:=rfl
local macro_rules | `(tactic| walk_at "A")=>`(tactic| ((try dsimp only[L2.pA]);refine' L2.tG KX G ?a ?l ?c ?k;(case a=>k_is);(case l=>k_is);(case c=>k_is);(case k=>k_is)))
theorem PySem.Challenge.cw_wirechannel_k13_pieces_holds : PySem.Challenge.rw_wirechannel_k13_pieces.Holds := by
 w_on;o_law;k_head;(case hw=>w_witness2)
 k_fill
 refine L2.kx (l:=PySem.Challenge.rw_wirechannel_k13_pieces) (n:=63) (k:=5) (x:="_law_script") rfl (by decide) rfl ⟨rfl,by decide,by decide⟩ (fun w h Y=>PySem.W.kIn_of Y) ?F
 case F=>
  intro w mg fa h KX G nk;have fO:L2.vq (L2.pA KX) mg "Channel" "Channel.__init__" Wc.eK ["top","bottom","left","right","wide","bends","keeps"]:=by
   dsimp only[L2.pA];refine' L2.pw KX G ?aC ?a1 ?i1 ?l1 ?c1 ?k1 ?pg ?hd ?po ?sa ?mk ?kc ⟨?n0,?n1,?n2,?n3,?n4,?n5,?n6,trivial⟩
   (case aC=>k_is)
   (case a1=>k_is)
   (case i1=>k_is)
   (case l1=>k_is)
   (case c1=>k_is)
   (case k1=>k_is)
   (case pg=>k_is)
   (case hd=>k_is)
   (case po=>k_is)
   (case sa=>k_is)
   (case mk=>k_is)
   (case kc=>k_is)
   (case n0=>unfold L2.bT;k_is)
   (case n1=>unfold L2.bT;k_is)
   (case n2=>unfold L2.bT;k_is)
   (case n3=>unfold L2.bT;k_is)
   (case n4=>unfold L2.bT;k_is)
   (case n5=>unfold L2.bT;k_is)
   (case n6=>unfold L2.bT;k_is)
  have eI:L2.vp (L2.pA KX) mg "pieces_of" Wc.b8 [.bool false]:=by
   dsimp only[L2.pA];refine' L2.pv KX G ?a ?l ?c ?k ?t
   (case a=>k_is);(case l=>k_is);(case c=>k_is);(case k=>k_is);(case t=>k_is)
  have T:Wc.Txt (L2.pA KX) mg:=by
   dsimp only[L2.pA];refine' ⟨aH KX G ?b_all,aH KX G ?b_any,aH KX G ?b_bool,aH KX G ?b_enumerate,aH KX G ?b_int,aH KX G ?b_isinstance,aH KX G ?b_len,aH KX G ?b_list,aH KX G ?b_max,aH KX G ?b_min,aH KX G ?b_range,aH KX G ?b_set,aH KX G ?b_sorted,aH KX G ?b_sum,aH KX G ?b_tuple,aH KX G ?b_zip⟩
   (case b_all=>k_is)
   (case b_any=>k_is)
   (case b_bool=>k_is)
   (case b_enumerate=>k_is)
   (case b_int=>k_is)
   (case b_isinstance=>k_is)
   (case b_len=>k_is)
   (case b_list=>k_is)
   (case b_max=>k_is)
   (case b_min=>k_is)
   (case b_range=>k_is)
   (case b_set=>k_is)
   (case b_sorted=>k_is)
   (case b_sum=>k_is)
   (case b_tuple=>k_is)
   (case b_zip=>k_is)
  exact Wc.oV T fO ⟨by walk_at "A",by walk_at "A",by walk_at "A",by walk_at "A",by walk_at "A",by walk_at "A",by walk_at "A",by walk_at "A",by walk_at "A",by walk_at "A",by walk_at "A",by walk_at "A",by walk_at "A",by walk_at "A",by walk_at "A",by walk_at "A",by walk_at "A",by walk_at "A",by walk_at "A",by walk_at "A",by walk_at "A",by walk_at "A",by walk_at "A",trivial⟩ eI nk
#print axioms PySem.Challenge.cw_wirechannel_k13_pieces_holds
